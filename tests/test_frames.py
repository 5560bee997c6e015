"""Point 4: frames."""

import itertools
import random
import unittest

from allasked.errors import NoFrame
from allasked.frames import frame_of, is_frame
from tests.samples import ALL_FOUR, FRAMES, NO_TIES, ONE_PLACE, STAR_OF_EIGHT
from tests.samples import at_once, kinds_of, plain, strange_things

EIGHT_TIES = STAR_OF_EIGHT[1] + ((1, 2),)
NO_MANY = [0, 9, 10, -1, -8, 10 ** 29, -(10 ** 29), True, False, "3", "", None, (3,), [3], {3: 3}]
NO_TIE_OF_THREE = [
    (0, 0), (2, 2), (0, 3), (3, 0), (-1, 0), (0, -1), (1, 10 ** 29), (0, True), (True, 0),
    (False, 1), (1, False), (False, True), (True, 2), (2, True), (), (0,), (1,), (0, 1, 2), (0, 1, 1),
    [0, 1], "01", "0-1", None, 1, True, {0: 1}, ("0", "1"), (0, "1"), (None, 1), (0, None),
    ((0,), 1), (0, (1,)), ((0, 1),), ([0], 1), (0, [1]), (0, {}), ((0, 1), (0, 2)),
]


def by_hand(many, ties):
    """Whether ties, tuples of two numbers, are those of a frame of so many places."""
    between = all(0 <= a < b < many for a, b in ties)
    return 1 <= many <= 8 and len(ties) <= 7 and between and sorted(set(ties)) == list(ties)


class IsFrame(unittest.TestCase):
    def test_frames(self):
        for frame in FRAMES:
            self.assertIs(is_frame(frame), True, frame)

    def test_places_without_ties(self):
        for many in range(1, 9):
            self.assertIs(is_frame((many, ())), True)

    def test_none_to_seven_ties(self):
        pairs = list(itertools.combinations(range(8), 2))
        for count in range(8):
            self.assertIs(is_frame((8, tuple(pairs[:count]))), True)
            self.assertIs(is_frame((8, tuple(pairs[-count:]) if count else ())), True)
        for count in range(8, 29):
            self.assertIs(is_frame((8, tuple(pairs[:count]))), False)
        self.assertIs(is_frame((8, EIGHT_TIES)), False)

    def test_each_pair_of_numbers(self):
        for many in range(-1, 11):
            for a in range(-2, 11):
                for b in range(-2, 11):
                    self.assertIs(is_frame((many, ((a, b),))), by_hand(many, ((a, b),)), (many, a, b))

    def test_each_two_and_three_pairs(self):
        pairs = list(itertools.product(range(3), repeat=2))
        for ties in itertools.chain(itertools.product(pairs, repeat=2), itertools.product(pairs, repeat=3)):
            self.assertIs(is_frame((3, ties)), by_hand(3, ties), ties)

    def test_not_rising(self):
        for ties in [((0, 2), (0, 1)), ((1, 2), (0, 1)), ((0, 1), (0, 1)), ((0, 1), (1, 2), (0, 2))]:
            self.assertIs(is_frame((3, ties)), False, ties)

    def test_wrong_many(self):
        for many in NO_MANY:
            self.assertIs(is_frame((many, ())), False, many)
            self.assertIs(is_frame((many, ((0, 1),))), False, many)

    def test_wrong_ties(self):
        for tie in NO_TIE_OF_THREE:
            self.assertIs(is_frame((3, (tie,))), False, tie)
            self.assertIs(is_frame((3, ((0, 1), tie))), False, tie)
            self.assertIs(is_frame((3, (tie, (1, 2)))), False, tie)
        self.assertIs(is_frame((3, ((1, 0),))), False)

    def test_lists_and_lengths(self):
        for thing in [[3, ()], (3, []), (3, [(0, 1)]), (3,), (), (3, (), ()), (3, ((0, 1),), 0), (3, (0, 1)), ((), 3)]:
            self.assertIs(is_frame(thing), False, thing)

    def test_strange_things_in_each_place(self):
        for at, thing in enumerate(strange_things()):
            with self.subTest(at=at), at_once():
                self.assertIs(is_frame(thing), False)
                self.assertIs(is_frame((thing, ())), False)
                self.assertIs(is_frame((3, thing)), False)
                self.assertIs(is_frame((3, (thing,))), False)
                self.assertIs(is_frame((3, ((0, 1), thing))), False)
                self.assertIs(is_frame((3, ((0, thing),))), False)
                self.assertIs(is_frame((3, ((thing, 2),))), False)
                self.assertIs(is_frame((3, (), thing)), False)


class FrameOf(unittest.TestCase):
    def refused(self, many, ties):
        with self.assertRaises(NoFrame):
            frame_of(many, ties)

    def test_a_frame_by_hand(self):
        told = frame_of(4, [(3, 1), (0, 2), (1, 0)])
        self.assertEqual(told, (4, ((0, 1), (0, 2), (1, 3))))

    def test_places_without_ties(self):
        for many in range(1, 9):
            self.assertEqual(frame_of(many, []), (many, ()))
            self.assertEqual(frame_of(many, ()), (many, ()))

    def test_any_order_either_way_list_or_tuple(self):
        chance = random.Random(4)
        for frame in FRAMES:
            for _ in range(12):
                ties = [tie if chance.random() < 0.5 else tie[::-1] for tie in frame[1]]
                chance.shuffle(ties)
                self.assertEqual(frame_of(frame[0], ties), frame)
                self.assertEqual(frame_of(frame[0], tuple(ties)), frame)

    def test_what_is_told_is_a_plain_frame(self):
        for frame in FRAMES:
            told = frame_of(frame[0], [(b, a) for a, b in frame[1]])
            self.assertEqual(kinds_of(told), kinds_of(frame))
            self.assertTrue(plain(told))
            self.assertIs(is_frame(told), True)

    def test_each_pair_of_numbers(self):
        for many in range(-1, 11):
            for a in range(-2, 11):
                for b in range(-2, 11):
                    tie = (min(a, b), max(a, b))
                    if by_hand(many, (tie,)):
                        self.assertEqual(frame_of(many, [(a, b)]), (many, (tie,)))
                    else:
                        self.refused(many, [(a, b)])

    def test_a_tie_twice(self):
        self.refused(3, [(0, 1), (0, 1)])
        self.refused(3, [(0, 1), (1, 0)])
        self.refused(3, ((1, 0), (1, 2), (1, 0)))
        self.refused(3, [(2, 1), (0, 1), (1, 2)])

    def test_seven_and_eight_ties(self):
        self.assertEqual(frame_of(8, list(STAR_OF_EIGHT[1])), STAR_OF_EIGHT)
        self.refused(8, EIGHT_TIES)
        self.refused(8, list(EIGHT_TIES))
        self.refused(8, list(itertools.combinations(range(8), 2)))
        self.refused(5, list(itertools.combinations(range(5), 2)))
        self.refused(8, [(0, 1)] * 8)
        self.refused(8, [(0, 1)] * 300)

    def test_wrong_many(self):
        for many in NO_MANY:
            self.refused(many, [])
            self.refused(many, [(0, 1)])

    def test_wrong_ties(self):
        for tie in NO_TIE_OF_THREE:
            self.refused(3, [tie])
            self.refused(3, (tie,))
            self.refused(3, [(0, 1), tie])
            self.refused(3, (tie, (2, 1)))

    def test_wrong_kinds_of_ties(self):
        for ties in [None, 0, 1, True, "", "01", {}, {(0, 1): 0}, {0: 1}, (0, 1), [0, 1], [[0, 1]], ((0, 1), [1, 2])]:
            self.refused(3, ties)

    def test_both_wrong(self):
        self.refused(None, None)
        self.refused("3", "01")
        self.refused(9, EIGHT_TIES)
        self.refused((3, ()), ())

    def test_strange_things_in_each_place(self):
        for at, thing in enumerate(strange_things()):
            with self.subTest(at=at), at_once():
                self.refused(thing, ())
                self.refused(thing, [(0, 1)])
                self.refused(thing, thing)
                if thing not in ([], [(0, 1)]):
                    self.refused(3, thing)
                self.refused(3, [thing])
                self.refused(3, ((0, 1), thing))
                self.refused(3, [(0, thing)])
                self.refused(3, [(thing, 2)])


class FramesAreKept(unittest.TestCase):
    def test_what_is_handed_in_stays(self):
        ties = [(3, 1), (0, 2), (1, 0)]
        frame_of(4, ties)
        self.assertEqual(ties, [(3, 1), (0, 2), (1, 0)])
        self.assertTrue(all(type(tie) is tuple for tie in ties))

    def test_what_is_refused_stays_too(self):
        for ties in [[(2, 1), (1, 2)], [(2, 1), [0, 1]], [(2, 0), (0, 1), (5, 1)], [(0, 1)] * 8]:
            former = list(ties)
            with self.assertRaises(NoFrame):
                frame_of(3, ties)
            self.assertEqual(ties, former)
        inner = [0, 1]
        self.assertIs(is_frame((3, [inner])), False)
        self.assertEqual(inner, [0, 1])

    def test_a_list_changed_afterwards(self):
        ties = [(1, 0), (2, 1)]
        told = frame_of(3, ties)
        ties.append((0, 2))
        ties[0] = "gone"
        self.assertEqual(told, (3, ((0, 1), (1, 2))))
        ties.clear()
        self.assertEqual(told, (3, ((0, 1), (1, 2))))

    def test_a_refusal_changes_no_later_answer(self):
        with self.assertRaises(NoFrame):
            frame_of(4, [(0, 1), (1, 0)])
        self.assertEqual(frame_of(4, list(ALL_FOUR[1])), ALL_FOUR)
        self.assertEqual(frame_of(4, []), NO_TIES)
        self.assertEqual(frame_of(1, []), ONE_PLACE)


if __name__ == "__main__":
    unittest.main()
