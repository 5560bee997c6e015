"""Plans of asking: points 12 and 13 of the document."""

from allasked.frames import is_tie, webs
from allasked.known import fits
from allasked.tables import table_of


def asks_only(frame, free, thing):
    """Tell whether a thing is a plan that asks only free ties, none a second time on one way."""
    if not isinstance(thing, tuple):
        return False
    if len(thing) == 2:
        return thing[0] == "end" and isinstance(thing[1], bool)
    if len(thing) != 4 or thing[0] != "ask":
        return False
    tie = thing[1]
    if not is_tie(frame, tie) or tie not in free:
        return False
    # With each ask a tie is free no more, so this comes to an end soon even
    # where the same thing stands in itself very often.
    left = [other for other in free if other != tie]
    return asks_only(frame, left, thing[2]) and asks_only(frame, left, thing[3])


def is_plan(frame, known, thing):
    """Tell whether a thing is a plan from what is known."""
    free = [tie for tie, truth in zip(frame[1], known) if truth is None]
    return asks_only(frame, free, thing)


def followed(plan, web):
    """The truth of the end to which a web leads, and the list of the ties asked on the way."""
    asked = []
    rest = plan
    while rest[0] == "ask":
        tie = rest[1]
        asked.append(tie)
        rest = rest[2] if tie in web else rest[3]
    return (rest[1], asked)


def worst(plan):
    """The greatest number of asks on a way to an end."""
    if plan[0] == "end":
        return 0
    return 1 + max(worst(plan[2]), worst(plan[3]))


def ends(plan):
    """How many ends a plan has."""
    if plan[0] == "end":
        return 1
    return ends(plan[2]) + ends(plan[3])


def first_fault(frame, table, known, plan):
    """The first web that fits of which the plan doesn't tell what stands in the table, or None."""
    for truth, web in zip(table, webs(frame)):
        if fits(frame, known, web) and followed(plan, web)[0] != truth:
            return web
    return None


def fault(frame, wish, known, plan):
    """The first web that fits of which the plan tells the wrong truth, or None."""
    return first_fault(frame, table_of(frame, wish), known, plan)


def lets_by(frame, wish, known, thing):
    """Tell whether a thing is a plan from what is known that is let by for the wish."""
    return is_plan(frame, known, thing) and fault(frame, wish, known, thing) is None
