"""Point 16: papers that hold out; and what point 3 says of papers, whoever wrote them."""

import itertools
import random
import unittest
from unittest import mock

from allasked.papers import holds_out
from allasked.turns import keeps
from tests.samples import ALL_FOUR, ALL_THREE, FRAMES, NO_TIES, ONE_PLACE, ONE_TIE, RING_OF_SEVEN, STAR_OF_EIGHT
from tests.samples import all_known, all_webs, at_once, doubled, fitting_by_hand, has_by_hand, keeps_by_hand, kinds_of
from tests.samples import least_by_hand, nested, nothing, paper_by_hand, simple_wishes, some_known, some_wish
from tests.samples import strange_things, truths_by_hand, turned_known_by_hand, turns_by_hand, two_by_hand, with_tie

A, B, C = ALL_THREE[1]
NOTHING = (None, None, None)
JOINED = ("joined",)
STAY = (0, 1, 2)
FIRST = (NOTHING, 3, ((A, B), ()), ((True, 1, STAY), (True, 1, (0, 2, 1)), (True, 1, (2, 0, 1))))
SECOND = ((True, None, None), 2, ((A, B), (A,)), ((False, 2, STAY), (False, 2, (1, 0, 2))))
THIRD = ((True, False, None), 1, ((A, C), (A,)), ())
SETTLED = ((True, True, None), 0, (), ())
PAPER = [FIRST, SECOND, THIRD]


def changed(paper, row, part, thing):
    """The paper with another thing in a part of a row."""
    made = list(paper)
    made[row] = made[row][:part] + (thing,) + made[row][part + 1:]
    return made


def with_move(paper, row, at, move):
    """The paper with another move."""
    moves = paper[row][3]
    return changed(paper, row, 3, moves[:at] + (move,) + moves[at + 1:])


def is_whole(thing):
    return type(thing) is int


def right_two(frame, wish, known, rest, two):
    if rest == 0:
        return type(two) is tuple and len(two) == 0
    if type(two) is not tuple or len(two) != 2:
        return False
    webs = [kinds_of(web) for web in fitting_by_hand(frame, known)]
    if any(kinds_of(web) not in webs for web in two):
        return False
    return has_by_hand(frame, wish, two[0]) and not has_by_hand(frame, wish, two[1])


def right_move(frame, wish, paper, row, tie, move):
    if type(move) is not tuple or len(move) != 3 or type(move[0]) is not bool or not is_whole(move[1]):
        return False
    if move[1] not in range(len(paper)) or kinds_of(move[2]) not in [kinds_of(o) for o in turns_by_hand(frame)]:
        return False
    goal = turned_known_by_hand(frame, move[2], with_tie(frame, row[0], tie, move[0]))
    return keeps_by_hand(frame, wish, move[2]) and paper[move[1]][0] == goal and paper[move[1]][1] + 1 >= row[1]


def right_row(frame, wish, paper, row):
    known, rest, two, moves = row
    if not right_two(frame, wish, known, rest, two) or type(moves) is not tuple:
        return False
    free = [tie for tie, truth in zip(frame[1], known) if truth is None] if rest >= 2 else []
    if len(moves) != len(free):
        return False
    return all(right_move(frame, wish, paper, row, tie, move) for tie, move in zip(free, moves))


def holds_by_hand(frame, wish, known, number, paper):
    """Whether a paper holds out, condition by condition."""
    if type(paper) is not list or not paper:
        return False
    kinds = [kinds_of(known) for known in all_known(frame)]
    for row in paper:
        if type(row) is not tuple or len(row) != 4 or kinds_of(row[0]) not in kinds or not is_whole(row[1]) or row[1] < 0:
            return False
    if paper[0][0] != known or paper[0][1] < number:
        return False
    return all(right_row(frame, wish, paper, row) for row in paper)


class HoldsOut(unittest.TestCase):
    def yes(self, *papers, number=3, wish=JOINED, frame=ALL_THREE, known=NOTHING):
        for paper in papers:
            self.assertIs(holds_out(frame, wish, known, number, paper), True, paper)

    def no(self, *papers, number=3, wish=JOINED, frame=ALL_THREE, known=NOTHING):
        for paper in papers:
            self.assertIs(holds_out(frame, wish, known, number, paper), False, paper)

    def test_for_a_number_and_for_lesser_ones(self):
        for number in (3, 2, 1, 0, -1, -2, -(10 ** 29)):
            self.yes(PAPER, number=number)
        for number in (4, 5, 99, 10 ** 30 - 1):
            self.no(PAPER, number=number)

    def test_one_row(self):
        row = (NOTHING, 0, (), ())
        self.yes([row], number=0)
        self.yes([row], number=-5)
        self.no([row], number=1)
        row = (NOTHING, 1, ((A, B), (C,)), ())
        self.yes([row], number=1)
        self.yes([row], number=0)
        self.no([row], number=2)

    def test_without_ties(self):
        for frame in (ONE_PLACE, NO_TIES):
            self.yes([((), 0, (), ())], number=0, frame=frame, known=())
            self.yes([((), 0, (), ())], number=-1, frame=frame, known=())
            self.no([((), 0, (), ())], number=1, frame=frame, known=())
            for two in ((), ((), ()), ((),)):
                for rest in (1, 2, 3):
                    self.no([((), rest, two, ())], number=0, frame=frame, known=())
                    self.no([((), rest, two, ())], number=0, frame=frame, known=(), wish=("lone",))

    def test_one_tie(self):
        row = ((None,), 1, (((0, 1),), ()), ())
        self.yes([row], number=1, frame=ONE_TIE, known=(None,))
        for rest in (2, 3):
            for moves in itertools.product([(True, 1, (0, 1)), (False, 2, (0, 1)), (True, 0, (1, 0))], repeat=1):
                rows = [((None,), rest, row[2], moves), ((True,), rest - 1, row[2], ()), ((False,), 0, (), ())]
                self.no(rows, number=rest, frame=ONE_TIE, known=(None,))

    def test_from_something_known(self):
        there = [SECOND, THIRD, THIRD]
        there = [with_move(with_move(there, 0, 0, (False, 1, STAY)), 0, 1, (False, 2, (1, 0, 2)))[0], THIRD, THIRD]
        self.yes(there, number=2, known=(True, None, None))
        self.no(there, number=3, known=(True, None, None))
        self.no(there, number=2, known=(None, True, None))
        self.no(there, number=2)
        self.yes([THIRD], number=1, known=(True, False, None))
        self.no([THIRD], number=1, known=(True, None, None))
        self.yes([SETTLED], number=0, known=(True, True, None))

    def test_no_rows(self):
        self.no([])
        self.no([], number=0)
        self.no([], number=-1)
        self.no([], number=-1, frame=ONE_PLACE, known=())

    def test_the_first_row(self):
        self.no(PAPER, number=2, known=(True, None, None))
        self.no(PAPER, number=2, known=(None, None, False))
        self.no([SECOND] + PAPER, number=2)
        self.no([THIRD, FIRST, SECOND], number=1)
        lesser = changed(PAPER, 0, 1, 2)
        self.yes(lesser, number=2)
        self.no(lesser, number=3)

    def test_a_known_that_is_none(self):
        for wrong in [(), (None, None), (None,) * 4, [None] * 3, [], None, "...", 0, True, (True, None, 0), (1, None, None),
                      (True, False, 1), (0, 0, 0), ("+", None, None), ((None,), None, None), {0: None}, ((), (), ())]:
            self.no(PAPER + [(wrong, 0, (), ())], changed(PAPER, 2, 0, wrong), changed(PAPER, 0, 0, wrong))
        self.no(changed(PAPER, 2, 0, (1, 0, None)), changed(PAPER, 1, 0, (1, None, None)))

    def test_a_rest_that_is_none(self):
        for wrong in [-1, -2, -(10 ** 29), True, False, None, "", "0", "1", "3", (), (0,), [], [1], {}]:
            for at in range(3):
                self.no(changed(PAPER, at, 1, wrong))
            self.no(PAPER + [(NOTHING, wrong, (), ())], PAPER + [(NOTHING, wrong, ((A, B), ()), ())])
        self.no([(NOTHING, True, ((A, B), ()), ())], number=1)
        self.no([(NOTHING, False, (), ())], number=0)
        self.no([(NOTHING, -1, (), ())], number=-1)
        self.no([(NOTHING, -1, (), ())], number=-2)

    def test_two_where_rest_is_0(self):
        self.yes(PAPER + [(NOTHING, 0, (), ())])
        for wrong in [((A, B), ()), ((),), ((), ()), [], None, False, 0, "", {}, [()], (None, None)]:
            self.no(PAPER + [(NOTHING, 0, wrong, ())])

    def test_two_where_rest_is_1_or_more(self):
        yes, no = (A, B), ()
        self.yes(PAPER + [(NOTHING, 1, (yes, no), ())])
        for at in range(3):
            two = PAPER[at][2]
            for wrong in [(), two[:1], two[1:], two + (no,), two * 2, two[::-1], list(two)]:
                self.no(changed(PAPER, at, 2, wrong))
        for wrong in [(yes, yes), (no, no), (no, yes), (yes,), (yes, no, no), [yes, no], yes, None, 0, True, "ab", {}, ()]:
            self.no(PAPER + [(NOTHING, 1, wrong, ())])

    def test_webs_that_do_not_fit(self):
        self.yes(PAPER + [((True, False, None), 1, ((A, C), (A,)), ())])
        self.no(PAPER + [((True, False, None), 1, ((A, B), (A,)), ())])
        self.no(PAPER + [((True, False, None), 1, ((A, B, C), (A,)), ())])
        self.no(PAPER + [((True, False, None), 1, ((B, C), (A,)), ())])
        self.no(PAPER + [((True, False, None), 1, ((A, C), ()), ())])
        self.no(PAPER + [((True, False, None), 1, ((A, C), (C,)), ())])
        for known in all_known(ALL_THREE):
            for one, other in itertools.product(all_webs(ALL_THREE), repeat=2):
                so = right_two(ALL_THREE, JOINED, known, 1, (one, other))
                self.assertIs(holds_out(ALL_THREE, JOINED, NOTHING, 3, PAPER + [(known, 1, (one, other), ())]), so)

    def test_things_that_are_no_webs(self):
        for wrong in [[A, B], (B, A), (A, A, B), (A, [0, 2]), (A, (2, 0)), (A, (0, 3)), ((0, 1), (0, True)), (A, (False, 2)),
                      ((0, 1, 2),), (0, 1), None, True, False, 3, "", "0-1", {}, (A, None), (A, B, None), (("tie", 0, 1),)]:
            self.no(PAPER + [(NOTHING, 1, (wrong, ()), ())], changed(PAPER, 0, 2, (wrong, ())))
            self.no(PAPER + [(NOTHING, 1, ((A, B), wrong), ())], changed(PAPER, 0, 2, ((A, B), wrong)))
        for wrong in [[], (C, [0, 1]), ((2, 1),), ((0, True),), ((False, 1),), ((True, 2),), [C], (0,), ((),), ((1,),)]:
            self.no(PAPER + [(NOTHING, 1, ((A, B), wrong), ())], changed(PAPER, 0, 2, ((A, B), wrong)))

    def test_moves_where_rest_is_0_or_1(self):
        moves = FIRST[3]
        for wrong in [moves, moves[:1], [], list(moves), None, 0, False, "", {}, (None,), ((),)]:
            self.no(PAPER + [(NOTHING, 0, (), wrong)], PAPER + [(NOTHING, 1, ((A, B), ()), wrong)])
            self.no(changed(PAPER, 2, 3, wrong))
        self.no(PAPER + [((True, False, None), 1, ((A, C), (A,)), ((True, 2, STAY),))])

    def test_moves_too_few_and_too_many(self):
        for at in range(2):
            moves = PAPER[at][3]
            wrongs = [(), moves[:-1], moves[1:], moves + moves[-1:], moves * 2, list(moves)]
            for wrong in wrongs + [None, 0, True, "", "abc", {}, [], ((),) * len(moves), (None,) * len(moves)]:
                self.no(changed(PAPER, at, 3, wrong))
        # In the second row A is known, so a move for it, too, is one too many.
        self.no(changed(PAPER, 1, 3, ((True, 1, STAY),) + SECOND[3]))

    def test_moves_out_of_order(self):
        for moves in itertools.permutations(FIRST[3]):
            told = holds_out(ALL_THREE, JOINED, NOTHING, 3, changed(PAPER, 0, 3, moves))
            self.assertIs(told, moves == FIRST[3])
        self.no(changed(PAPER, 1, 3, SECOND[3][::-1]))

    def test_moves_that_are_none(self):
        for row, at in [(0, 0), (0, 1), (0, 2), (1, 0), (1, 1)]:
            move = PAPER[row][3][at]
            self.yes(with_move(PAPER, row, at, move))
            for wrong in [(), move[:2], move[1:], move + (0,), list(move), None, 0, True, "abc", {}, (move,), move[::-1]]:
                self.no(with_move(PAPER, row, at, wrong))

    def test_an_answer_that_is_no_truth(self):
        for row, at in [(0, 0), (0, 1), (0, 2), (1, 0), (1, 1)]:
            move = PAPER[row][3][at]
            for wrong in [0, 1, int(move[0]), -1, None, "", "yes", "True", (), (True,), [], [True], {}, not move[0]]:
                self.no(with_move(PAPER, row, at, (wrong,) + move[1:]))

    def test_an_at_beyond_or_below_0(self):
        for row, at in [(0, 0), (0, 1), (0, 2), (1, 0), (1, 1)]:
            move = PAPER[row][3][at]
            # -1 and the like would be the very row, counted from the end.
            for wrong in [-1, -2, -3, move[1] - 3, 3, 4, 99, 10 ** 30 - 1, -(10 ** 29), True, False, None, "1", (1,), [1]]:
                self.no(with_move(PAPER, row, at, (move[0], wrong, move[2])))
            for wrong in {0, 1, 2} - {move[1]}:
                self.no(with_move(PAPER, row, at, (move[0], wrong, move[2])))

    def test_an_order_that_is_no_turn(self):
        for row, at in [(0, 0), (0, 1), (0, 2), (1, 0), (1, 1)]:
            answer, goal, order = PAPER[row][3][at]
            for wrong in [list(order), order[:2], order + (3,), tuple(place == 1 if place < 2 else 2 for place in order), (),
                          (0, 0, 0), (0, 1, 3), (-3, -2, -1), None, 0, True, "012", {}, [], (order,), ((0,), (1,), (2,))]:
                self.no(with_move(PAPER, row, at, (answer, goal, wrong)))
        # The truths for places equal the right order; in the other row that one has been looked at already.
        self.no(with_move(PAPER, 1, 1, (False, 2, (True, False, 2))))
        self.no(PAPER + [SECOND[:3] + ((SECOND[3][0], (False, 2, (True, False, 2))),)])
        path = (3, ((0, 1), (1, 2)))
        odd = ("odd",)
        rows = [((None, None), 2, two_by_hand(path, odd, (None, None)), ((True, 1, STAY), (True, 1, (2, 1, 0)))),
                ((True, None), 1, two_by_hand(path, odd, (True, None)), ())]
        self.yes(rows, number=2, frame=path, wish=odd, known=(None, None))
        for wrong in [(0, 2, 1), (1, 0, 2), (1, 2, 0), (2, 0, 1)]:
            self.no(with_move(rows, 0, 1, (True, 1, wrong)), number=2, frame=path, wish=odd, known=(None, None))

    def test_an_order_that_does_not_keep_the_wish(self):
        wish = ("one", ("tie", 0, 1), ("tie", 1, 2))
        knowns = [NOTHING, (True, None, None), (None, True, None), (None, None, True)]
        moves = tuple((True, at, STAY) for at in (1, 2, 3))
        rows = [(known, 1, two_by_hand(ALL_THREE, wish, known), ()) for known in knowns]
        rows[0] = (NOTHING, 2, rows[0][2], moves)
        self.yes(rows, number=2, wish=wish)
        self.yes(with_move(rows, 0, 2, (True, 1, (2, 1, 0))), number=2, wish=wish)
        # (0, 2, 1) and (2, 0, 1) are turns that lead to the right known, too.
        self.no(with_move(rows, 0, 1, (True, 1, (0, 2, 1))), number=2, wish=wish)
        self.no(with_move(rows, 0, 2, (True, 1, (2, 0, 1))), number=2, wish=wish)

    def test_an_order_that_would_show_too_much(self):
        # B doesn't count: only by turning it to A would three asks seem to be needed.
        for wish, told in [(("odd",), self.yes), (("one", ("tie", 0, 1), ("tie", 1, 2)), self.no)]:
            rows = []
            for known, rest in [(NOTHING, 3), ((True, None, None), 2), ((True, True, None), 1)]:
                rows.append((known, rest, two_by_hand(ALL_THREE, wish, known), ()))
            rows[0] = rows[0][:3] + (((True, 1, STAY), (True, 1, (0, 2, 1)), (True, 1, (2, 0, 1))),)
            rows[1] = rows[1][:3] + (((True, 2, STAY), (True, 2, (1, 0, 2))),)
            told(rows, wish=wish)

    def test_a_row_gone_to(self):
        self.no(changed(PAPER, 1, 0, (False, None, None)), changed(PAPER, 1, 0, (None, True, None)))
        self.no(changed(PAPER, 2, 0, (True, None, None)), changed(PAPER, 2, 0, (True, None, False)))
        small = [FIRST, (SECOND[0], 1, SECOND[2], ()), THIRD]
        self.no(small)
        self.no(small, number=2)
        self.no([FIRST, SECOND, (THIRD[0], 0, (), ())])
        self.yes([changed(PAPER, 0, 1, 2)[0]] + small[1:], number=2)
        self.yes(PAPER + [small[1]])

    def test_rows_that_no_move_goes_to(self):
        self.yes(PAPER + [SETTLED], PAPER + [FIRST], PAPER + [SECOND, THIRD, SETTLED], PAPER + [(NOTHING, 0, (), ())])
        for wrong in [(), FIRST[:3], FIRST + ((),), list(FIRST), None, 0, True, "abcd", {}, [], (NOTHING, 0), (NOTHING,),
                      (SETTLED[0], 1, (), ()), (SETTLED[0], 2, (), ()), ((True, True, None), 1, ((A, B), (A,)), ())]:
            self.no(PAPER + [wrong], PAPER + [wrong, SETTLED], PAPER + [SETTLED, wrong], PAPER[:2] + [wrong])
        self.no([None] + PAPER, PAPER + [(NOTHING, 4, ((A, B), ()), FIRST[3])])

    def test_moves_that_go_to_the_first_row(self):
        other = SECOND[:3] + (((False, 0, STAY), (False, 0, (1, 0, 2))),)
        self.yes([THIRD, other], [THIRD, THIRD, other], number=1, known=THIRD[0])
        self.no([THIRD, other], number=2, known=THIRD[0])
        self.no([changed([THIRD], 0, 1, 0)[0], other], [(THIRD[0], 0, (), ()), other], number=0, known=THIRD[0])
        self.no([THIRD, changed([other], 0, 1, 3)[0]], number=1, known=THIRD[0])

    def test_a_truth_is_no_number(self):
        row = (NOTHING, 1, ((A, B), ()), ())
        self.yes([row], number=1)
        self.no([row], number=True)
        self.no([row], number=False)

    def test_other_kinds_in_the_place_of_the_whole(self):
        self.no(tuple(PAPER), {0: FIRST}, {at: row for at, row in enumerate(PAPER)}, (PAPER,), [PAPER], FIRST, None, "", 3)

    def test_strange_things_in_each_part(self):
        for at, thing in enumerate(strange_things()):
            with self.subTest(at=at), at_once():
                wrong = [thing, [thing], PAPER + [thing], [thing] + PAPER, PAPER[:1] + [thing] + PAPER[2:]]
                wrong += [changed(PAPER, row, part, thing) for row in range(3) for part in range(4)]
                wrong += [with_move(PAPER, 0, k, thing) for k in range(3)]
                for k, (answer, goal, order) in enumerate(FIRST[3]):
                    if not isinstance(thing, bool):
                        wrong.append(with_move(PAPER, 0, k, (thing, goal, order)))
                    wrong.append(with_move(PAPER, 0, k, (answer, thing, order)))
                    wrong.append(with_move(PAPER, 0, k, (answer, goal, thing)))
                    wrong.append(with_move(PAPER, 0, k, (answer, goal, order, thing)))
                    wrong.append(with_move(PAPER, 0, k, (answer, goal, order[:2] + (thing,))))
                wrong += [changed(PAPER, 0, 2, (thing, ())), changed(PAPER, 0, 2, ((A, B), thing))]
                wrong += [changed(PAPER, 0, 2, ((A, thing), ())), changed(PAPER, 0, 2, ((A, B), (thing,)))]
                wrong += [PAPER + [(NOTHING, 0, thing, ())], PAPER + [(NOTHING, 0, (), thing)], PAPER + [FIRST + (thing,)]]
                for paper in wrong:
                    self.assertIs(holds_out(ALL_THREE, JOINED, NOTHING, 3, paper), False)
        with at_once():
            self.no(doubled(FIRST, make=lambda thing: [thing, thing]), nested(PAPER, lambda thing: [thing], 28))


class PapersByHand(unittest.TestCase):
    def test_hold_out_for_the_least_and_no_more(self):
        chance = random.Random(16)
        for frame in [frame for frame in FRAMES if len(frame[1]) <= 6]:
            for wish in chance.sample(simple_wishes(frame, chance), 3) + [some_wish(frame, chance, 2)]:
                for known in [nothing(frame)] + some_known(frame, chance, 2):
                    found = least_by_hand(frame, wish, known)
                    orders = chance.sample(turns_by_hand(frame), min(24, len(turns_by_hand(frame))))
                    orders = [order for order in orders if keeps_by_hand(frame, wish, order)]
                    for kept in ((), orders):
                        paper = paper_by_hand(frame, wish, known, kept)
                        self.assertIs(holds_out(frame, wish, known, found, paper), True, (frame, wish, known))
                        self.assertIs(holds_out(frame, wish, known, found - 1, paper), True)
                        self.assertIs(holds_out(frame, wish, known, -1, paper), True)
                        self.assertIs(holds_out(frame, wish, known, found + 1, paper), False)

    def test_by_turns_there_are_fewer_rows(self):
        plainly = paper_by_hand(ALL_FOUR, JOINED, (None,) * 6)
        turned = paper_by_hand(ALL_FOUR, JOINED, (None,) * 6, turns_by_hand(ALL_FOUR))
        self.assertLess(len(turned), len(plainly))
        for paper in (plainly, turned):
            self.assertIs(holds_out(ALL_FOUR, JOINED, (None,) * 6, 6, paper), True)
            self.assertIs(holds_out(ALL_FOUR, ("ring",), (None,) * 6, 6, paper), False)

    def mutated(self, paper, frame, chance):
        """The paper with one or two parts exchanged for others that might stand there."""
        made = list(paper)
        for _ in range(chance.choice((1, 1, 2, 3))):
            at = chance.randrange(len(made))
            known, rest, two, moves = made[at]
            choice = chance.randrange(9)
            if choice == 0:
                known = chance.choice(some_known(frame, chance, 1) + [made[chance.randrange(len(made))][0]])
            elif choice == 1:
                rest = rest + chance.choice((-1, 1, 1))
            elif choice == 2:
                two = chance.choice([(), two[::-1], tuple(chance.sample(all_webs(frame), 2)), made[0][2]])
            elif choice == 3:
                moves = chance.choice([(), moves[:-1], moves[::-1], moves + moves[:1], made[0][3]])
            elif choice == 4:
                # The last row takes the place of this one.
                known, rest, two, moves = made[-1]
            elif choice == 5:
                made.append(made[at])
            elif moves:
                k = chance.randrange(len(moves))
                answer, goal, order = moves[k]
                answer = not answer if choice == 6 else answer
                goal = chance.randrange(len(made)) if choice in (6, 7) else goal
                order = chance.choice(turns_by_hand(frame)) if choice in (7, 8) else order
                moves = moves[:k] + ((answer, goal, order),) + moves[k + 1:]
            made[at] = (known, rest, two, moves)
        return made

    def test_whoever_wrote_them(self):
        chance = random.Random(160)
        held = refused = 0
        for frame in [ALL_THREE, (3, ((0, 1), (1, 2))), (4, ((0, 1), (0, 2), (1, 2), (2, 3)))]:
            for wish in [JOINED, ("odd",), ("ring",), ("tie", 0, 1), ("ends", 0, 1), some_wish(frame, chance, 2)]:
                known = nothing(frame)
                orders = [order for order in turns_by_hand(frame) if keeps_by_hand(frame, wish, order)]
                papers = [paper_by_hand(frame, wish, known), paper_by_hand(frame, wish, known, orders)]
                found = least_by_hand(frame, wish, known)
                for _ in range(120):
                    paper = self.mutated(chance.choice(papers), frame, chance)
                    number = chance.choice((found, found, found + 1, found - 1))
                    told = holds_out(frame, wish, known, number, paper)
                    self.assertIs(told, holds_by_hand(frame, wish, known, number, paper), (frame, wish, number, paper))
                    if told:
                        held += 1
                        self.assertLessEqual(number, found)
                    else:
                        refused += 1
        self.assertGreater(held, 100)
        self.assertGreater(refused, 100)


class GoodTime(unittest.TestCase):
    def rows_of_all(self, frame, wish, orders, chance):
        """A row for each thing known; odd leaves as many asks as ties are not known."""
        knowns = sorted(all_known(frame), key=lambda known: -known.count(None))
        at = {known: number for number, known in enumerate(knowns)}
        rows = []
        for known in knowns:
            rest = known.count(None)
            moves = []
            for tie in [tie for tie, truth in zip(frame[1], known) if truth is None and rest >= 2]:
                answer, order = chance.choice((True, False)), chance.choice(orders)
                goal = turned_known_by_hand(frame, order, with_tie(frame, known, tie, answer))
                moves.append((answer, at[goal], order))
            two = ()
            if rest:
                there = tuple(tie for tie, truth in zip(frame[1], known) if truth)
                more = tuple(sorted(there + (frame[1][known.index(None)],)))
                two = (there, more) if len(there) % 2 else (more, there)
            rows.append((known, rest, two, tuple(moves)))
        return rows

    def test_seven_ties_and_many_orders(self):
        chance = random.Random(161)
        heavy = nested(("odd",), lambda inner: ("one", inner, ("ring",)), 10)
        for frame, wish in [(RING_OF_SEVEN, ("odd",)), (STAR_OF_EIGHT, ("odd",)), (STAR_OF_EIGHT, heavy)]:
            paper = self.rows_of_all(frame, wish, turns_by_hand(frame), chance)
            self.assertEqual(len(paper), 3 ** 7)
            with at_once(10):
                self.assertIs(holds_out(frame, wish, (None,) * 7, 7, paper), True)
                self.assertIs(holds_out(frame, wish, (None,) * 7, 8, paper), False)
                self.assertIs(holds_out(frame, ("hub",), (None,) * 7, 7, paper), False)

    def test_each_order_and_the_table_are_reckoned_once(self):
        frame = ALL_FOUR
        paper = paper_by_hand(frame, JOINED, nothing(frame), turns_by_hand(frame))
        orders = [move[2] for row in paper for move in row[3]]
        self.assertGreater(len(orders), len(set(orders)))
        with mock.patch("allasked.papers.table_of", side_effect=lambda *two: list(truths_by_hand(*two))) as table:
            with mock.patch("allasked.papers.keeps", side_effect=keeps) as kept:
                self.assertIs(holds_out(frame, JOINED, nothing(frame), 6, paper), True)
        self.assertEqual(table.call_count, 1)
        self.assertEqual(kept.call_count, len(set(orders)))


class PapersAreKept(unittest.TestCase):
    def test_what_is_handed_in_stays(self):
        paper = [FIRST, SECOND, THIRD]
        strange = [FIRST, [list(SECOND)], (NOTHING, 1, [[A, B], []], [[True, 0, [0, 1, 2]]])]
        before = kinds_of(strange)
        for _ in range(3):
            self.assertIs(holds_out(ALL_THREE, JOINED, NOTHING, 3, paper), True)
            self.assertIs(holds_out(ALL_THREE, JOINED, NOTHING, 3, strange), False)
        self.assertEqual(paper, PAPER)
        self.assertEqual(kinds_of(strange), before)

    def test_what_is_done_to_it_afterwards(self):
        paper = [FIRST, SECOND, THIRD]
        self.assertIs(holds_out(ALL_THREE, JOINED, NOTHING, 3, paper), True)
        paper.pop()
        self.assertIs(holds_out(ALL_THREE, JOINED, NOTHING, 3, paper), False)
        paper.append(THIRD)
        self.assertIs(holds_out(ALL_THREE, JOINED, NOTHING, 3, paper), True)


if __name__ == "__main__":
    unittest.main()
