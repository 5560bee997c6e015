"""Plans that are changed and put together: point 14 of the document."""

from allasked.known import with_answer
from allasked.turns import turned_tie


def cut(frame, plan, known):
    """The plan without its asks of what is known."""
    if plan[0] == "end":
        return plan
    word, tie, there, gone = plan
    truth = known[frame[1].index(tie)]
    if truth is None:
        return (word, tie, cut(frame, there, known), cut(frame, gone, known))
    return cut(frame, there if truth else gone, known)


def opposite(plan):
    """The plan with the other truth at each end."""
    if plan[0] == "end":
        return ("end", not plan[1])
    word, tie, there, gone = plan
    return (word, tie, opposite(there), opposite(gone))


def missing_plan(plan):
    """The plan that does with a web what this one does with its missing web."""
    if plan[0] == "end":
        return plan
    word, tie, there, gone = plan
    return (word, tie, missing_plan(gone), missing_plan(there))


def turned_plan(order, plan):
    """The plan with each tie turned."""
    if plan[0] == "end":
        return plan
    word, tie, there, gone = plan
    return (word, turned_tie(order, tie), turned_plan(order, there), turned_plan(order, gone))


def instead_of_end(frame, word, end, other, known):
    """What stands in the place of an end to which a way leads that tells what is known."""
    truth = end[1]
    # Of both a False is told already, of either a True.
    if (word == "both" and not truth) or (word == "either" and truth):
        return end
    rest = cut(frame, other, known)
    if word == "one" and truth:
        return opposite(rest)
    return rest


def going_on(frame, word, plan, other, known):
    """The plan, on a way that tells what is known, with the other one put to its ends."""
    if plan[0] == "end":
        return instead_of_end(frame, word, plan, other, known)
    tie = plan[1]
    at = frame[1].index(tie)
    there = going_on(frame, word, plan[2], other, with_answer(known, at, True))
    gone = going_on(frame, word, plan[3], other, with_answer(known, at, False))
    return ("ask", tie, there, gone)


def put_together(frame, word, one, other):
    """A plan for two wishes put together by the word, of a plan for each of them."""
    return going_on(frame, word, one, other, (None,) * len(frame[1]))
