"""Ties and webs that turns lead to one another: points 24 and 25 of the document."""

from allasked.errors import NoTurn
from allasked.frames import webs
from allasked.tables import table_of
from allasked.turns import is_turn, keeps, turned_numbers, turned_web_numbers

POWERS_OF_PRIMES = (2, 3, 4, 5, 7)


def check_turns(frame, orders):
    """Refuse with NoTurn where one thing is no turn of the frame."""
    if not all(is_turn(frame, order) for order in orders):
        raise NoTurn("not all of these are turns of the frame")


def reached(start, goings):
    """The numbers to which a number is led, in order."""
    found = {start: True}
    waiting = [start]
    while waiting:
        number = waiting.pop()
        for going in goings:
            goal = going[number]
            if goal not in found:
                found[goal] = True
                waiting.append(goal)
    # A turn gone often enough leads back, so this is the whole part.
    return sorted(found.keys())


def parts(things, goings):
    """The things, parted by what their numbers are led to; each part in order, by their first."""
    found = []
    seen = {}
    for number in range(len(things)):
        if number not in seen:
            part = reached(number, goings)
            for other in part:
                seen[other] = True
            found.append([things[other] for other in part])
    return found


def led(frame, orders):
    """The parts of the ties that the turns lead to one another."""
    check_turns(frame, orders)
    return parts(frame[1], [turned_numbers(frame, order) for order in orders])


def kinds(frame, orders):
    """The kinds of webs that the turns lead to one another."""
    check_turns(frame, orders)
    return parts(webs(frame), [turned_web_numbers(frame, order) for order in orders])


def all_by_turns(frame, wish, orders):
    """Tell whether all ties must be asked, as the turns show."""
    if len(led(frame, orders)) != 1 or len(frame[1]) not in POWERS_OF_PRIMES:
        return False
    table = table_of(frame, wish)
    # The first web is without ties, the last one has them all.
    return table[0] != table[-1] and all(keeps(frame, table, order) for order in orders)
