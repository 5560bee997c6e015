"""Papers that are told, and plans played against papers: points 17 and 18 of the document."""

from allasked.known import unknown, with_answer
from allasked.least import held_answer, reckoned
from allasked.turns import turned_tie


def web_with(frame, done, known, truth):
    """A web that fits what is known and has this truth, where there is one."""
    rest = known
    for at in unknown(known):
        there = with_answer(rest, at, True)
        # The tie is there but where all that fits then has the other truth.
        rest = with_answer(rest, at, False) if done[there][0] == (not truth) else there
    return tuple(tie for tie, part in zip(frame[1], rest) if part)


def two_webs(frame, done, known):
    """A web that fits and has the wish, and one that fits and hasn't; no webs where it is settled."""
    if done[known][0] is not None:
        return ()
    return (web_with(frame, done, known, True), web_with(frame, done, known, False))


def paper_from(frame, done, known):
    """A paper that holds out for the least, had of all leasts."""
    still = tuple(range(frame[0]))
    goals = [known]
    numbers = {known: 0}
    paper = []
    while len(paper) < len(goals):
        here = goals[len(paper)]
        rest = done[here][1]
        asked = unknown(here) if rest >= 2 else []
        moves = []
        for at in asked:
            answer, goal = held_answer(done, here, at)
            if goal not in numbers:
                numbers[goal] = len(goals)
                goals.append(goal)
            moves.append((answer, numbers[goal], still))
        paper.append((here, rest, two_webs(frame, done, here), tuple(moves)))
    return paper


def paper_for(frame, wish, known):
    """Some paper that holds out for the least from what is known."""
    return paper_from(frame, reckoned(frame, wish, known), known)


def move_for(frame, row, tie):
    """The move of a row for one of the ties that it doesn't know."""
    at = frame[1].index(tie)
    return row[3][unknown(row[0]).index(at)]


def played(frame, paper, plan):
    """The ties that a plan asks and the answers of the foe, who plays by the paper."""
    here = 0
    # What becomes of each place by all moves so far.
    order = tuple(range(frame[0]))
    told = []
    rest = plan
    while rest[0] == "ask":
        tie = rest[1]
        row = paper[here]
        answer = False
        if row[1] >= 2:
            answer, here, further = move_for(frame, row, turned_tie(order, tie))
            order = tuple(further[place] for place in order)
        told.append((tie, answer))
        rest = rest[2] if answer else rest[3]
    return told
