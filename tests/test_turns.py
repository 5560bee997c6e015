"""Point 11: turns."""

import itertools
import math
import random
import unittest

from allasked.tables import first_unlike
from allasked.turns import is_turn, turned_known, turned_tie, turned_web, turned_wish, unkept
from allasked.wishes import has, is_wish
from tests.samples import ALL_FOUR, ALL_THREE, FRAMES, NO_TIES, ONE_PLACE, ONE_TIE, RING_OF_SEVEN, ROW_OF_EIGHT
from tests.samples import SINGLES, STAR_OF_EIGHT, all_webs, at_once, doubled, fitting_by_hand, has_by_hand, kinds_of
from tests.samples import nested, plain, simple_wishes, some_known, some_wish, strange_things, turned_by_hand
from tests.samples import turns_by_hand

SQUARE = (4, ((0, 1), (0, 3), (1, 2), (2, 3)))
KITE = (4, ((0, 1), (0, 2), (1, 2), (2, 3)))
ROUND = (1, 2, 3, 4, 5, 6, 0)


def some_turns(frame, chance, count):
    found = turns_by_hand(frame)
    return found if len(found) <= count else chance.sample(found, count)


class IsTurn(unittest.TestCase):
    def yes(self, frame, *things):
        for thing in things:
            self.assertIs(is_turn(frame, thing), True, (frame, thing))

    def no(self, frame, *things):
        for thing in things:
            self.assertIs(is_turn(frame, thing), False, (frame, thing))

    def test_by_hand(self):
        self.yes(KITE, (0, 1, 2, 3), (1, 0, 2, 3))
        self.no(KITE, (0, 2, 1, 3), (3, 1, 2, 0), (1, 2, 0, 3), (0, 1, 3, 2), (3, 2, 1, 0))
        self.yes(SQUARE, (1, 2, 3, 0), (0, 3, 2, 1), (3, 2, 1, 0), (2, 1, 0, 3))
        self.no(SQUARE, (1, 0, 2, 3), (0, 1, 3, 2), (0, 2, 1, 3))
        self.yes(RING_OF_SEVEN, ROUND, ROUND[::-1], (0, 6, 5, 4, 3, 2, 1))
        self.no(RING_OF_SEVEN, (1, 0, 2, 3, 4, 5, 6), (0, 2, 4, 6, 1, 3, 5))
        self.yes(ROW_OF_EIGHT, tuple(range(8)), tuple(range(8))[::-1])
        self.no(ROW_OF_EIGHT, (1, 2, 3, 4, 5, 6, 7, 0))

    def test_all_orders(self):
        for frame in FRAMES:
            if frame[0] < 7:
                right = set(turns_by_hand(frame))
                for order in itertools.permutations(range(frame[0])):
                    self.assertIs(is_turn(frame, order), order in right, (frame, order))

    def test_some_orders_of_many_places(self):
        chance = random.Random(11)
        for frame in FRAMES:
            if frame[0] >= 7:
                right = set(turns_by_hand(frame))
                self.yes(frame, *some_turns(frame, chance, 100))
                for _ in range(300):
                    order = tuple(chance.sample(range(frame[0]), frame[0]))
                    self.assertIs(is_turn(frame, order), order in right, (frame, order))

    def test_how_many_there_are(self):
        self.assertEqual(sum(is_turn(STAR_OF_EIGHT, order) for order in turns_by_hand(STAR_OF_EIGHT)), math.factorial(7))
        self.assertEqual(sum(is_turn(ALL_FOUR, order) for order in itertools.permutations(range(4))), 24)
        self.assertEqual(sum(is_turn(RING_OF_SEVEN, order) for order in itertools.permutations(range(7))), 14)
        rigid = (6, ((0, 1), (0, 2), (1, 2), (1, 3), (2, 4), (4, 5)))
        found = [order for order in itertools.permutations(range(6)) if is_turn(rigid, order)]
        self.assertEqual(found, [(0, 1, 2, 3, 4, 5)])

    def test_without_ties_each_order_is_one(self):
        for many in range(1, 6):
            self.yes((many, ()), *itertools.permutations(range(many)))
        self.yes((8, ()), (7, 6, 5, 4, 3, 2, 1, 0), (0, 2, 1, 3, 4, 5, 7, 6))
        self.yes(ONE_PLACE, (0,))
        self.no(ONE_PLACE, (), (1,), (-1,), (0, 0), (0, 1), 0, None, False, (False,), (None,), [0])

    def test_too_short_and_too_long(self):
        for frame in FRAMES:
            order = tuple(range(frame[0]))
            self.yes(frame, order)
            self.no(frame, order[:-1], order[1:], order + (frame[0],), order + (0,), (), order * 30, (order,))

    def test_a_place_twice(self):
        for frame in FRAMES:
            order = tuple(range(frame[0]))
            for at, place in itertools.permutations(order, 2):
                self.no(frame, order[:at] + (place,) + order[at + 1:])
        self.no(NO_TIES, (0, 0, 0, 0), (1, 1, 1, 1), (0, 1, 2, 2), (3, 1, 2, 3))

    def test_below_0_and_beyond(self):
        for frame in FRAMES:
            order = tuple(range(frame[0]))
            for at in order:
                for wrong in (-1, -frame[0], at - frame[0], frame[0], 8, 99, 10 ** 30 - 1, -(10 ** 29)):
                    self.no(frame, order[:at] + (wrong,) + order[at + 1:])

    def test_truths_for_0_and_1(self):
        for frame in FRAMES:
            order = tuple(range(frame[0]))
            self.no(frame, (False,) + order[1:], order[:1] + (True,) + order[2:], (False, True) + order[2:])
            self.no(frame, tuple(reversed((False,) + order[1:])), tuple(bool(place) for place in order))
        self.no(ONE_TIE, (True, False), (True, 0), (1, False))

    def test_lists_in_the_place_of_tuples(self):
        for frame in FRAMES:
            order = list(range(frame[0]))
            self.no(frame, order, order[::-1], {place: place for place in order}, [order], tuple([place] for place in order))

    def test_strange_things_in_each_place(self):
        for frame in (ALL_THREE, ONE_PLACE, (2, ()), ONE_TIE, RING_OF_SEVEN):
            order = tuple(range(frame[0]))
            for at, thing in enumerate(strange_things()):
                with self.subTest(at=at), at_once():
                    self.assertIs(is_turn(frame, thing), False)
                    self.assertIs(is_turn(frame, order + (thing,)), False)
                    for place in order:
                        self.assertIs(is_turn(frame, order[:place] + (thing,) + order[place + 1:]), False)
        with at_once():
            self.assertIs(is_turn((2, ()), doubled(0)), False)
            self.assertIs(is_turn(ONE_PLACE, nested(0, lambda thing: (thing,))), False)


class TurnedTie(unittest.TestCase):
    def test_by_hand(self):
        self.assertEqual(turned_tie((1, 2, 3, 0), (0, 1)), (1, 2))
        self.assertEqual(turned_tie((1, 2, 3, 0), (2, 3)), (0, 3))
        self.assertEqual(turned_tie((3, 2, 1, 0), (0, 1)), (2, 3))
        self.assertEqual(turned_tie((1, 0), (0, 1)), (0, 1))
        self.assertEqual(turned_tie(ROUND, (0, 6)), (0, 1))
        self.assertEqual(turned_tie(ROUND, (5, 6)), (0, 6))

    def test_a_tie_of_the_frame_the_lesser_place_ahead(self):
        chance = random.Random(110)
        for frame in FRAMES:
            for order in some_turns(frame, chance, 60):
                told = [turned_tie(order, tie) for tie in frame[1]]
                self.assertEqual(sorted(told), list(frame[1]))
                for tie, turned in zip(frame[1], told):
                    self.assertIs(type(turned), tuple)
                    self.assertEqual({order[place] for place in tie}, set(turned))
                    self.assertLess(turned[0], turned[1])


class TurnedWeb(unittest.TestCase):
    def test_by_hand(self):
        self.assertEqual(turned_web((1, 2, 3, 0), ()), ())
        self.assertEqual(turned_web((1, 2, 3, 0), ((0, 1), (2, 3))), ((0, 3), (1, 2)))
        self.assertEqual(turned_web((3, 2, 1, 0), ((0, 1), (0, 3), (1, 2))), ((0, 3), (1, 2), (2, 3)))
        self.assertEqual(turned_web(ROUND, ((0, 6), (5, 6))), ((0, 1), (0, 6)))

    def test_each_web(self):
        chance = random.Random(111)
        for frame in FRAMES:
            for order in some_turns(frame, chance, 12):
                told = [turned_web(order, web) for web in all_webs(frame)]
                self.assertEqual(told, [turned_by_hand(order, web) for web in all_webs(frame)])
                self.assertEqual(set(told), set(all_webs(frame)))
                self.assertTrue(all(type(web) is tuple and plain(web) for web in told))


class TurnedKnown(unittest.TestCase):
    def test_by_hand(self):
        self.assertEqual(turned_known(SQUARE, (1, 2, 3, 0), (True, False, None, None)), (False, None, True, None))
        self.assertEqual(turned_known(SQUARE, (0, 1, 2, 3), (True, False, None, None)), (True, False, None, None))
        self.assertEqual(turned_known(KITE, (1, 0, 2, 3), (None, True, False, None)), (None, False, True, None))
        self.assertEqual(turned_known(ONE_TIE, (1, 0), (False,)), (False,))
        self.assertEqual(turned_known(ONE_PLACE, (0,), ()), ())
        self.assertEqual(turned_known(NO_TIES, (3, 1, 0, 2), ()), ())

    def test_tie_by_tie(self):
        chance = random.Random(112)
        for frame in FRAMES:
            for order in some_turns(frame, chance, 12):
                for known in some_known(frame, chance, 6):
                    told = turned_known(frame, order, known)
                    self.assertIs(type(told), tuple)
                    by_tie = {turned_by_hand(order, (tie,))[0]: truth for tie, truth in zip(frame[1], known)}
                    self.assertEqual(kinds_of(told), kinds_of(tuple(by_tie[tie] for tie in frame[1])))

    def test_turned_webs_fit(self):
        chance = random.Random(113)
        for frame in (ALL_THREE, SQUARE, ALL_FOUR, RING_OF_SEVEN):
            for order in some_turns(frame, chance, 6):
                for known in some_known(frame, chance, 3):
                    right = {turned_by_hand(order, web) for web in fitting_by_hand(frame, known)}
                    self.assertEqual(set(fitting_by_hand(frame, turned_known(frame, order, known))), right)


class TurnedWish(unittest.TestCase):
    def test_places_become_others(self):
        order = (1, 2, 3, 0)
        self.assertEqual(turned_wish(SQUARE, order, ("tie", 0, 1)), ("tie", 1, 2))
        self.assertEqual(turned_wish(SQUARE, order, ("tie", 2, 3)), ("tie", 0, 3))
        self.assertEqual(turned_wish(SQUARE, order, ("way", 0, 2)), ("way", 1, 3))
        self.assertEqual(turned_wish(SQUARE, order, ("way", 1, 3)), ("way", 0, 2))
        self.assertEqual(turned_wish(SQUARE, order, ("ends", 3, 2)), ("ends", 0, 2))
        self.assertEqual(turned_wish(SQUARE, order, ("ends", 0, 3)), ("ends", 1, 3))
        self.assertEqual(turned_wish(SQUARE, order, ("ends", 2, 1)), ("ends", 3, 1))
        self.assertEqual(turned_wish(ONE_TIE, (1, 0), ("tie", 0, 1)), ("tie", 0, 1))
        self.assertEqual(turned_wish(ONE_TIE, (1, 0), ("way", 0, 1)), ("way", 0, 1))
        self.assertEqual(turned_wish(NO_TIES, (3, 2, 1, 0), ("way", 0, 1)), ("way", 2, 3))

    def test_all_else_stays(self):
        chance = random.Random(114)
        for frame in FRAMES:
            for order in some_turns(frame, chance, 4):
                for wish in [(word,) for word in SINGLES] + [("many", k) for k in (0, 1, 3, 99)]:
                    self.assertEqual(turned_wish(frame, order, wish), wish)
                    self.assertEqual(turned_wish(frame, order, ("not", wish)), ("not", wish))

    def test_truths_go_with_their_webs(self):
        path = (3, ((0, 1), (1, 2)))
        told = ("told", (True, True, False, False))
        self.assertEqual(turned_wish(path, (2, 1, 0), told), ("told", (True, False, True, False)))
        self.assertEqual(turned_wish(path, (0, 1, 2), told), told)
        self.assertEqual(turned_wish(ONE_PLACE, (0,), ("told", (False,))), ("told", (False,)))
        for order in turns_by_hand(ALL_THREE):
            for number, web in enumerate(all_webs(ALL_THREE)):
                one = tuple(k == number for k in range(8))
                at = all_webs(ALL_THREE).index(turned_by_hand(order, web))
                wish = turned_wish(ALL_THREE, order, ("told", one))
                self.assertEqual(kinds_of(wish), kinds_of(("told", tuple(k == at for k in range(8)))))

    def test_a_turn_that_is_not_its_own_way_back(self):
        told = tuple(web == ((0, 1), (1, 2)) for web in all_webs(RING_OF_SEVEN))
        wish = turned_wish(RING_OF_SEVEN, ROUND, ("told", told))
        self.assertEqual(wish, ("told", tuple(web == ((1, 2), (2, 3)) for web in all_webs(RING_OF_SEVEN))))
        self.assertEqual(turned_wish(RING_OF_SEVEN, ROUND, ("way", 0, 3)), ("way", 1, 4))
        self.assertEqual(turned_wish(RING_OF_SEVEN, ROUND, ("way", 3, 6)), ("way", 0, 4))

    def test_wishes_in_wishes(self):
        order = (1, 2, 3, 0)
        a, b, a_turned, b_turned = ("tie", 2, 3), ("ends", 3, 1), ("tie", 0, 3), ("ends", 0, 1)
        for word in ("both", "either", "one"):
            self.assertEqual(turned_wish(SQUARE, order, (word, a, b)), (word, a_turned, b_turned))
            self.assertEqual(turned_wish(SQUARE, order, (word, b, ("odd",))), (word, b_turned, ("odd",)))
        for word in ("not", "missing"):
            self.assertEqual(turned_wish(SQUARE, order, (word, a)), (word, a_turned))
        deep = nested(a, lambda inner: ("not", inner), 23)
        self.assertEqual(turned_wish(SQUARE, order, deep), nested(a_turned, lambda inner: ("not", inner), 23))

    def test_a_turned_web_has_it_just_where_the_web_has_it(self):
        chance = random.Random(115)
        for frame in FRAMES:
            for order in some_turns(frame, chance, 3):
                wishes = simple_wishes(frame, chance)
                wishes = chance.sample(wishes, min(len(wishes), 10)) + [some_wish(frame, chance, 3) for _ in range(5)]
                for wish in wishes:
                    turned = turned_wish(frame, order, wish)
                    self.assertTrue(is_wish(frame, turned), (frame, order, wish))
                    self.assertTrue(plain(turned))
                    for web in chance.sample(all_webs(frame), min(2 ** len(frame[1]), 16)):
                        so = has_by_hand(frame, wish, web)
                        self.assertIs(has(frame, turned, turned_by_hand(order, web)), so, (frame, order, wish, web))

    def test_many_parts_at_once(self):
        wish = nested(("sides",), lambda inner: ("one", inner, ("told", (True, False) * 64)), 11)
        with at_once():
            turned = turned_wish(RING_OF_SEVEN, ROUND, wish)
            self.assertIsNotNone(unkept(RING_OF_SEVEN, wish, ROUND))
        self.assertTrue(is_wish(RING_OF_SEVEN, turned))


class Unkept(unittest.TestCase):
    def test_kept(self):
        for frame in FRAMES:
            for order in turns_by_hand(frame)[:5]:
                for wish in [(word,) for word in SINGLES] + [("many", 2), ("not", ("missing", ("joined",)))]:
                    self.assertIsNone(unkept(frame, wish, order))
        self.assertIsNone(unkept(KITE, ("tie", 0, 1), (1, 0, 2, 3)))
        self.assertIsNone(unkept(KITE, ("both", ("tie", 0, 2), ("tie", 1, 2)), (1, 0, 2, 3)))
        self.assertIsNone(unkept(KITE, ("ends", 3, 1), (1, 0, 2, 3)))
        self.assertIsNone(unkept(ONE_TIE, ("way", 0, 1), (1, 0)))
        self.assertIsNone(unkept(NO_TIES, ("way", 0, 1), (3, 2, 1, 0)))

    def test_by_hand(self):
        self.assertEqual(unkept(KITE, ("tie", 0, 2), (1, 0, 2, 3)), ((0, 2),))
        self.assertEqual(unkept(KITE, ("tie", 1, 2), (1, 0, 2, 3)), ((0, 2),))
        self.assertEqual(unkept(KITE, ("not", ("tie", 1, 2)), (1, 0, 2, 3)), ((0, 2),))
        self.assertEqual(unkept(KITE, ("ends", 0, 2), (1, 0, 2, 3)), ((0, 1), (0, 2)))
        self.assertEqual(unkept(SQUARE, ("way", 0, 1), (1, 2, 3, 0)), ((0, 1),))
        self.assertEqual(unkept(SQUARE, ("way", 0, 2), (1, 2, 3, 0)), ((0, 1), (0, 3)))

    def test_a_table_kept_by_some(self):
        path = (3, ((0, 1), (1, 2)))
        for table in itertools.product((True, False), repeat=4):
            told = unkept(path, ("told", table), (2, 1, 0))
            self.assertEqual(told, None if table[1] == table[2] else ((0, 1),))
            self.assertIsNone(unkept(path, ("told", table), (0, 1, 2)))

    def test_the_first_web(self):
        chance = random.Random(116)
        for frame in FRAMES:
            for order in some_turns(frame, chance, 4):
                back = tuple(order.index(place) for place in range(frame[0]))
                for wish in chance.sample(simple_wishes(frame, chance), 6) + [some_wish(frame, chance, 2)]:
                    by_hand = None
                    for web in reversed(all_webs(frame)):
                        if has_by_hand(frame, wish, web) != has_by_hand(frame, wish, turned_by_hand(back, web)):
                            by_hand = web
                    told = unkept(frame, wish, order)
                    self.assertEqual(told, by_hand, (frame, wish, order))
                    self.assertEqual(told, first_unlike(frame, wish, turned_wish(frame, order, wish)))
                    self.assertTrue(plain(told))


class TurnsAreKept(unittest.TestCase):
    def test_lists_handed_in_stay(self):
        for thing in ([0, 1, 2], [[0], [1], [2]], ([0], [1], [2]), {0: [1]}):
            before = repr(thing)
            self.assertIs(is_turn(ALL_THREE, thing), False)
            self.assertEqual(repr(thing), before)

    def test_the_same_at_each_asking(self):
        for _ in range(3):
            self.assertIs(is_turn(ONE_TIE, (1, 0)), True)
            self.assertIs(is_turn(ONE_TIE, (True, False)), False)
            self.assertEqual(turned_known(SQUARE, (1, 2, 3, 0), (True, False, None, None)), (False, None, True, None))
            self.assertEqual(unkept(KITE, ("tie", 0, 2), (1, 0, 2, 3)), ((0, 2),))


if __name__ == "__main__":
    unittest.main()
