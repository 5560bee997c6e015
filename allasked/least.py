"""The least number of asks, and plans that reach it: point 15 of the document."""

from allasked.known import unknown, with_answer
from allasked.tables import table_of


def knowing_more(known):
    """What is known and all that knows more, each behind all that knows more than it."""
    found = [()]
    for truth in known:
        # None comes last, so what doesn't know a tie stands behind what does.
        truths = (True, False, None) if truth is None else (truth,)
        found = [more + (one,) for more in found for one in truths]
    return found


def only_number(known):
    """The number of the one web that fits where all ties are known."""
    return sum(1 << at for at, truth in enumerate(known) if truth)


def asks_with(done, known, at):
    """How many asks are enough at worst where the tie of this number is asked first."""
    there = done[with_answer(known, at, True)]
    gone = done[with_answer(known, at, False)]
    return 1 + max(there[1], gone[1])


def reckoned_from_more(done, known):
    """What is settled and the least, had of what knows a tie more."""
    free = unknown(known)
    truth = done[with_answer(known, free[0], True)][0]
    if truth is not None and truth == done[with_answer(known, free[0], False)][0]:
        return (truth, 0)
    return (None, min(asks_with(done, known, at) for at in free))


def reckoned(frame, wish, known):
    """For what is known and all that knows more, a tuple: the truth that it settles or None, and the least."""
    table = table_of(frame, wish)
    done = {}
    for more in knowing_more(known):
        if None in more:
            done[more] = reckoned_from_more(done, more)
        else:
            done[more] = (table[only_number(more)], 0)
    return done


def best_numbers(done, known):
    """The numbers of the ties with which the least is reached, none where it is settled."""
    # Where it is settled the least is 0, and no tie is asked with that.
    return [at for at in unknown(known) if asks_with(done, known, at) == done[known][1]]


def held_answer(done, known, at):
    """The answer for the tie of this number that leaves no fewer asks than the other one, and what is known then."""
    there = with_answer(known, at, True)
    gone = with_answer(known, at, False)
    if done[there][1] > done[gone][1]:
        return (True, there)
    return (False, gone)


def plan_from(frame, done, known):
    """A plan from what is known that has the least as its worst."""
    truth = done[known][0]
    if truth is not None:
        return ("end", truth)
    at = best_numbers(done, known)[0]
    there = plan_from(frame, done, with_answer(known, at, True))
    gone = plan_from(frame, done, with_answer(known, at, False))
    return ("ask", frame[1][at], there, gone)


def least(frame, wish, known):
    """The least worst of the plans from what is known that are let by."""
    return reckoned(frame, wish, known)[known][1]


def best_asks(frame, wish, known):
    """The rising list of the ties with which the least is reached, none where it is settled."""
    done = reckoned(frame, wish, known)
    return [frame[1][at] for at in best_numbers(done, known)]


def plan_for(frame, wish, known):
    """Some plan from what is known that is let by and has the least as its worst."""
    return plan_from(frame, reckoned(frame, wish, known), known)
