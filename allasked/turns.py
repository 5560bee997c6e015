"""Turns of a frame, and what becomes of things by them: point 11 of the document."""

from allasked.frames import is_place
from allasked.tables import first_unlike


def turned_tie(order, tie):
    """The tie that a tie becomes."""
    a, b = order[tie[0]], order[tie[1]]
    return (min(a, b), max(a, b))


def is_turn(frame, thing):
    """Tell whether a thing is a turn of the frame."""
    many, ties = frame
    if not isinstance(thing, tuple) or len(thing) != many:
        return False
    if not all(is_place(many, place) for place in thing) or len(set(thing)) != many:
        return False
    return all(turned_tie(thing, tie) in ties for tie in ties)


def turned_web(order, web):
    """The web that a web becomes."""
    return tuple(sorted(turned_tie(order, tie) for tie in web))


def turned_numbers(frame, order):
    """For each tie, by its number, the number of the tie that it becomes."""
    return [frame[1].index(turned_tie(order, tie)) for tie in frame[1]]


def turned_known(frame, order, known):
    """What becomes of what is known."""
    turned = [None] * len(known)
    for truth, at in zip(known, turned_numbers(frame, order)):
        turned[at] = truth
    return tuple(turned)


def turned_web_numbers(frame, order):
    """For each web, by its number, the number of the web that it becomes."""
    found = [0]
    for at in turned_numbers(frame, order):
        # As in the order of webs, those with this tie stand behind those without it.
        found = found + [number + (1 << at) for number in found]
    return found


def turned_table(frame, order, table):
    """The list of truths that becomes of one, each going with its web."""
    turned = list(table)
    for truth, number in zip(table, turned_web_numbers(frame, order)):
        turned[number] = truth
    return turned


def keeps(frame, table, order):
    """Tell whether a turn keeps the wish that has this table."""
    return turned_table(frame, order, table) == table


def turned_wish(frame, order, wish):
    """The wish that a turned web has just where the web has this wish."""
    word = wish[0]
    if word in ("tie", "way"):
        return (word,) + turned_tie(order, wish[1:])
    if word == "ends":
        return (word, order[wish[1]], wish[2])
    if word == "told":
        return (word, tuple(turned_table(frame, order, wish[1])))
    if word in ("not", "missing"):
        return (word, turned_wish(frame, order, wish[1]))
    if word in ("both", "either", "one"):
        return (word, turned_wish(frame, order, wish[1]), turned_wish(frame, order, wish[2]))
    return wish


def unkept(frame, wish, order):
    """The first web that has just one of the wish and the turned wish, or None."""
    return first_unlike(frame, wish, turned_wish(frame, order, wish))
