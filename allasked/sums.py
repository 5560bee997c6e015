"""Sums of wishes: point 21 of the document."""

from allasked.frames import is_web, is_whole, webs
from allasked.tables import table_of


def sum_of(frame, wish):
    """The tuples of a web and a number, in the order of webs, such that those within a web come to 1 or 0."""
    numbers = [1 if truth else 0 for truth in table_of(frame, wish)]
    for at in range(len(frame[1])):
        weight = 1 << at
        for number in range(len(numbers)):
            # What stands at the web without this tie counts within the one with it, too, so it is taken off here.
            if number & weight:
                numbers[number] -= numbers[number - weight]
    return [(web, number) for web, number in zip(webs(frame), numbers) if number != 0]


def is_part(frame, thing):
    """Tell whether a thing is a tuple of a web of the frame and a whole number."""
    if not isinstance(thing, tuple) or len(thing) != 2:
        return False
    return is_web(frame, thing[0]) and is_whole(thing[1])


def is_sum(frame, wish, thing):
    """Tell whether a thing is the sum of the wish."""
    # True equals 1, so the kinds of all parts are looked at first.
    if not isinstance(thing, list) or not all(is_part(frame, part) for part in thing):
        return False
    return thing == sum_of(frame, wish)


def degree(frame, wish):
    """The greatest number of ties of a web in the sum."""
    return max([len(web) for web, number in sum_of(frame, wish)], default=0)
