"""Papers that hold out: point 16 of the document."""

from allasked.frames import is_web, is_whole, number_of
from allasked.known import fits, is_known, unknown, with_answer
from allasked.tables import table_of
from allasked.turns import is_turn, keeps, turned_known


def is_row(frame, thing):
    """Tell whether a thing is a tuple of four, the first something known, the second a rest."""
    if not isinstance(thing, tuple) or len(thing) != 4:
        return False
    return is_known(frame, thing[0]) and is_whole(thing[1]) and thing[1] >= 0


class Judge:
    """Looks at the rows of a paper, of each of which the known and the rest are right."""

    def __init__(self, frame, table, paper):
        self.frame = frame
        self.table = table
        self.paper = paper
        self.kept = {}

    def turn_holds(self, thing):
        """Tell whether a thing is a turn that keeps the wish."""
        # (True, 0) equals (1, 0), so only a turn is looked up.
        if not is_turn(self.frame, thing):
            return False
        if thing not in self.kept:
            self.kept[thing] = keeps(self.frame, self.table, thing)
        return self.kept[thing]

    def web_holds(self, known, thing, truth):
        """Tell whether a thing is a web that fits, with this truth for the wish."""
        if not is_web(self.frame, thing) or not fits(self.frame, known, thing):
            return False
        return self.table[number_of(self.frame, thing)] == truth

    def two_holds(self, known, rest, two):
        """Tell whether two webs show that what is known doesn't settle the wish, where they must."""
        if rest == 0:
            return two == ()
        if not isinstance(two, tuple) or len(two) != 2:
            return False
        return self.web_holds(known, two[0], True) and self.web_holds(known, two[1], False)

    def move_holds(self, known, rest, at, move):
        """Tell whether a thing is a move for the tie of this number."""
        if not isinstance(move, tuple) or len(move) != 3:
            return False
        answer, goal, order = move
        if not isinstance(answer, bool) or not is_whole(goal) or not 0 <= goal < len(self.paper):
            return False
        if not self.turn_holds(order):
            return False
        goal_known, goal_rest = self.paper[goal][:2]
        wanted = turned_known(self.frame, order, with_answer(known, at, answer))
        return goal_known == wanted and goal_rest >= rest - 1

    def row_holds(self, row):
        """Tell whether all that stands in a row is right."""
        known, rest, two, moves = row
        if not self.two_holds(known, rest, two):
            return False
        if rest < 2:
            return moves == ()
        free = unknown(known)
        if not isinstance(moves, tuple) or len(moves) != len(free):
            return False
        return all(self.move_holds(known, rest, at, move) for at, move in zip(free, moves))


def begins_right(frame, known, number, thing):
    """Tell whether a thing is a list of rows that begins with what is known and a rest of at least the number."""
    if not is_whole(number) or not isinstance(thing, list) or len(thing) == 0:
        return False
    # A move may go to any row, so all are looked at ahead of the moves.
    if not all(is_row(frame, row) for row in thing):
        return False
    return thing[0][0] == known and thing[0][1] >= number


def rows_hold(frame, table, paper):
    """Tell whether all that stands in the rows is right for the wish that has this table."""
    judge = Judge(frame, table, paper)
    return all(judge.row_holds(row) for row in paper)


def holds_out(frame, wish, known, number, thing):
    """Tell whether a thing is a paper that holds out for the wish, what is known, and the number."""
    return begins_right(frame, known, number, thing) and rows_hold(frame, table_of(frame, wish), thing)
