"""Showings of the least: point 19 of the document."""

from allasked.foes import paper_from
from allasked.frames import is_whole
from allasked.least import plan_from, reckoned
from allasked.papers import begins_right, rows_hold
from allasked.plans import first_fault, is_plan, worst
from allasked.tables import table_of


def shows(frame, wish, known, thing):
    """Tell whether a thing shows the least of the wish from what is known."""
    if not isinstance(thing, tuple) or len(thing) != 3:
        return False
    number, plan, paper = thing
    if not is_whole(number) or not is_plan(frame, known, plan) or worst(plan) > number:
        return False
    if not begins_right(frame, known, number, paper):
        return False
    # The plan and the paper are looked at by one table, which is reckoned once.
    table = table_of(frame, wish)
    return first_fault(frame, table, known, plan) is None and rows_hold(frame, table, paper)


def showing_of(frame, wish, known):
    """Some showing of the least of the wish from what is known."""
    done = reckoned(frame, wish, known)
    return (done[known][1], plan_from(frame, done, known), paper_from(frame, done, known))
