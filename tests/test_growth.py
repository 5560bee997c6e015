"""Point 22: wishes that grow; and what point 3 says of them."""

import itertools
import random
import unittest
from unittest import mock

from allasked.errors import AskError, NoGrowth
from allasked.growth import least_noes, least_yeses, ungrown
from allasked.least import least
from tests.samples import ALL_FOUR, ALL_THREE, FRAMES, NO_TIES, ONE_PLACE, ONE_TIE, RING_OF_SEVEN, ROW_OF_EIGHT
from tests.samples import all_webs, at_once, has_by_hand, keeps_by_hand, kinds_of, nested, nothing, plain
from tests.samples import simple_wishes, some_wish, truths_by_hand, turns_by_hand

A, B, C = ALL_THREE[1]
HEAVY = nested(("joined",), lambda inner: ("either", inner, ("ring",)), 11)
GROWING_WORDS = [("joined",), ("ring",), ("three",), ("hub",), ("many", 0), ("many", 2), ("many", 99), ("not", ("lone",)),
                 ("not", ("sides",)), ("missing", ("lone",)), ("missing", ("sides",)), ("missing", ("not", ("joined",))),
                 ("either", ("hub",), ("ring",)), ("both", ("joined",), ("ring",))]


def ungrown_by_hand(frame, wish):
    """The first web, and the first tie, by comparing all webs with all."""
    webs = all_webs(frame)
    for web in webs:
        for tie in frame[1]:
            more = tuple(sorted(set(web) | {tie}))
            if has_by_hand(frame, wish, web) and not has_by_hand(frame, wish, more):
                return (web, tie)
    return None


def least_yeses_by_hand(frame, wish):
    """Those that have it, with no other one that has it within them."""
    having = [web for web in all_webs(frame) if has_by_hand(frame, wish, web)]
    return [web for web in having if not any(set(other) < set(web) for other in having)]


def least_noes_by_hand(frame, wish):
    """Those that meet all least yeses, with no other such one within them."""
    yeses = least_yeses_by_hand(frame, wish)
    meeting = [web for web in all_webs(frame) if all(set(web) & set(yes) for yes in yeses)]
    return [web for web in meeting if not any(set(other) < set(web) for other in meeting)]


def some_growing(frame, chance):
    """A wish that grows: to have all ties of some of a few webs."""
    webs = [chance.sample(frame[1], chance.randrange(len(frame[1]) + 1)) for _ in range(chance.randrange(5))]
    truths = tuple(any(set(few) <= set(web) for few in webs) for web in all_webs(frame))
    return ("told", truths)


class Ungrown(unittest.TestCase):
    def told(self, frame, wish, right):
        told = ungrown(frame, wish)
        self.assertEqual(told, right, (frame, wish))
        self.assertTrue(plain(told))

    def test_wishes_that_grow(self):
        for frame in FRAMES:
            for wish in GROWING_WORDS + [("tie", a, b) for a, b in frame[1]] + [("ends", 0, 2), ("ends", 0, 99)]:
                self.told(frame, wish, None)
            for a, b in itertools.combinations(range(frame[0]), 2):
                self.told(frame, ("way", a, b), None)

    def test_by_hand(self):
        self.told(ALL_THREE, ("odd",), ((A,), B))
        self.told(ALL_THREE, ("not", ("odd",)), ((), A))
        self.told(ALL_THREE, ("lone",), ((A,), B))
        self.told(ALL_THREE, ("sides",), ((A, B), C))
        self.told(ALL_THREE, ("not", ("tie", 0, 2)), ((), B))
        self.told(ALL_THREE, ("not", ("tie", 1, 2)), ((), C))
        self.told(ALL_THREE, ("both", ("tie", 0, 1), ("not", ("tie", 0, 2))), ((A,), B))
        self.told(ALL_THREE, ("missing", ("joined",)), ((A,), B))
        self.told(ONE_TIE, ("lone",), ((), (0, 1)))
        self.told(RING_OF_SEVEN, ("not", ("ring",)), (((0, 1), (0, 6), (1, 2), (2, 3), (3, 4), (4, 5)), (5, 6)))

    def test_without_ties(self):
        for frame in (ONE_PLACE, NO_TIES):
            for wish in (("joined",), ("lone",), ("odd",), ("not", ("odd",)), ("told", (True,)), ("told", (False,))):
                self.told(frame, wish, None)

    def test_all_tables_of_two_ties(self):
        path = (3, ((0, 1), (1, 2)))
        for table in itertools.product((True, False), repeat=4):
            self.told(path, ("told", table), ungrown_by_hand(path, ("told", table)))

    def test_each_kind(self):
        chance = random.Random(22)
        for frame in FRAMES:
            for wish in chance.sample(simple_wishes(frame, chance), 8) + [some_wish(frame, chance, 3) for _ in range(8)]:
                self.told(frame, wish, ungrown_by_hand(frame, wish))
            self.told(frame, some_growing(frame, chance), None)


class LeastYesesAndNoes(unittest.TestCase):
    def told(self, frame, wish, yeses, noes):
        self.assertEqual(least_yeses(frame, wish), yeses, (frame, wish))
        self.assertEqual(least_noes(frame, wish), noes, (frame, wish))

    def test_by_hand(self):
        self.told(ALL_THREE, ("joined",), [(A, B), (A, C), (B, C)], [(A, B), (A, C), (B, C)])
        self.told(ALL_THREE, ("ring",), [(A, B, C)], [(A,), (B,), (C,)])
        self.told(ALL_THREE, ("many", 1), [(A,), (B,), (C,)], [(A, B, C)])
        self.told(ALL_THREE, ("tie", 0, 2), [(B,)], [(B,)])
        self.told(ALL_THREE, ("way", 0, 1), [(A,), (B, C)], [(A, B), (A, C)])
        self.told(ALL_THREE, ("both", ("tie", 0, 1), ("either", ("tie", 0, 2), ("tie", 1, 2))),
                  [(A, B), (A, C)], [(A,), (B, C)])
        self.told(ONE_TIE, ("joined",), [((0, 1),)], [((0, 1),)])
        self.told(ROW_OF_EIGHT, ("joined",), [ROW_OF_EIGHT[1]], [(tie,) for tie in ROW_OF_EIGHT[1]])

    def test_had_by_all_and_by_none(self):
        for frame in FRAMES:
            self.told(frame, ("many", 0), [()], [])
            self.told(frame, ("many", 99), [], [()])

    def test_without_ties(self):
        self.told(ONE_PLACE, ("joined",), [()], [])
        self.told(ONE_PLACE, ("ring",), [], [()])
        self.told(NO_TIES, ("lone",), [()], [])
        self.told(NO_TIES, ("joined",), [], [()])

    def test_each_kind(self):
        chance = random.Random(220)
        for frame in FRAMES:
            for wish in GROWING_WORDS + [some_growing(frame, chance) for _ in range(4)]:
                yeses, noes = least_yeses(frame, wish), least_noes(frame, wish)
                self.assertEqual(yeses, least_yeses_by_hand(frame, wish), (frame, wish))
                self.assertEqual(noes, least_noes_by_hand(frame, wish), (frame, wish))
                self.assertTrue(type(yeses) is list and type(noes) is list and plain(yeses) and plain(noes))
                for yes, no in itertools.product(yeses, noes):
                    self.assertTrue(set(yes) & set(no))

    def test_all_tables_of_three_ties(self):
        for table in itertools.product((True, False), repeat=8):
            wish = ("told", table)
            if ungrown_by_hand(ALL_THREE, wish) is None:
                self.told(ALL_THREE, wish, least_yeses_by_hand(ALL_THREE, wish), least_noes_by_hand(ALL_THREE, wish))
            else:
                self.refused(ALL_THREE, wish)

    def refused(self, frame, wish):
        for asked in (least_yeses, least_noes):
            with self.assertRaises(NoGrowth) as caught:
                asked(frame, wish)
            self.assertIsInstance(caught.exception, AskError)

    def test_refused(self):
        self.refused(ALL_THREE, ("odd",))
        self.refused(ALL_THREE, ("lone",))
        self.refused(ALL_THREE, ("sides",))
        self.refused(ALL_THREE, ("not", ("joined",)))
        self.refused(ONE_TIE, ("not", ("tie", 0, 1)))
        self.refused(RING_OF_SEVEN, ("not", ("ring",)))
        self.refused(RING_OF_SEVEN, ("missing", ("joined",)))
        chance = random.Random(221)
        for frame in FRAMES:
            for wish in chance.sample(simple_wishes(frame, chance), 6):
                if ungrown_by_hand(frame, wish) is not None:
                    self.refused(frame, wish)

    def test_what_is_refused_changes_nothing(self):
        self.refused(ALL_THREE, ("odd",))
        self.told(ALL_THREE, ("ring",), [(A, B, C)], [(A,), (B,), (C,)])
        self.refused(ALL_THREE, ("odd",))

    def test_the_lists_are_the_askers_own(self):
        for asked, right in ((least_yeses, [(A,), (B, C)]), (least_noes, [(A, B), (A, C)])):
            kept = asked(ALL_THREE, ("way", 0, 1))
            told = asked(ALL_THREE, ("way", 0, 1))
            told.append(())
            told[0] = "gone"
            self.assertEqual(kept, right)
            self.assertEqual(asked(ALL_THREE, ("way", 0, 1)), right)

    def test_a_wish_handed_in_stays(self):
        wish = ("told", (False, True) * 4)
        for asked in (ungrown, least_yeses, least_noes):
            asked(ALL_THREE, wish)
            self.assertEqual(kinds_of(wish), kinds_of(("told", (False, True) * 4)))


class TheWhole(unittest.TestCase):
    """What point 3 says of a wish that grows."""

    def test_the_least_is_no_less_than_any_of_these(self):
        chance = random.Random(222)
        for frame in FRAMES:
            for wish in chance.sample(GROWING_WORDS, 4) + [some_growing(frame, chance) for _ in range(3)]:
                found = least(frame, wish, nothing(frame))
                yeses = [len(web) for web in least_yeses(frame, wish)]
                noes = [len(web) for web in least_noes(frame, wish)]
                self.assertGreaterEqual(found, max(yeses + noes))
                if yeses and noes:
                    self.assertGreaterEqual(found, min(yeses) + min(noes) - 1)

    def test_kept_by_all_turns_on_frames_with_all_ties(self):
        for many in (2, 3, 4):
            frame = (many, tuple(itertools.combinations(range(many), 2)))
            needed = 0
            for wish in GROWING_WORDS + [("many", k) for k in range(8)] + [("not", ("missing", ("hub",)))]:
                truths = truths_by_hand(frame, wish)
                if ungrown(frame, wish) is None and len(set(truths)) == 2:
                    self.assertTrue(all(keeps_by_hand(frame, wish, order) for order in turns_by_hand(frame)))
                    self.assertEqual(least(frame, wish, nothing(frame)), len(frame[1]), (frame, wish))
                    needed += 1
            self.assertGreater(needed, 4)


class GoodTime(unittest.TestCase):
    def test_seven_ties(self):
        with at_once(5):
            for asked in (ungrown, least_yeses, least_noes):
                self.assertTrue(plain(asked(RING_OF_SEVEN, HEAVY)))
                self.assertTrue(plain(asked(ALL_FOUR, HEAVY)))

    def test_the_table_is_reckoned_once(self):
        for asked in (ungrown, least_yeses, least_noes):
            with mock.patch("allasked.growth.table_of", side_effect=truths_by_hand) as table:
                asked(RING_OF_SEVEN, ("joined",))
            self.assertEqual(table.call_count, 1)


if __name__ == "__main__":
    unittest.main()
