"""Point 26: games; and what point 3 says of the foe."""

import itertools
import random
import unittest
from unittest import mock

from allasked.errors import AskError, NoBack, NoTie, NoTruth
from allasked.games import Game
from allasked.known import settled
from allasked.least import best_asks, least
from tests.samples import ALL_FOUR, ALL_THREE, FRAMES, NO_TIES, ONE_PLACE, ONE_TIE, RING_OF_SEVEN, ROW_OF_EIGHT
from tests.samples import STAR_OF_EIGHT, at_once, fitting_by_hand, has_by_hand, kinds_of, least_by_hand, nested, nothing
from tests.samples import plain, simple_wishes, some_wish, strange_things, truths_by_hand, with_tie

A, B, C = ALL_THREE[1]
JOINED = ("joined",)
SQUARE = (4, ((0, 1), (0, 3), (1, 2), (2, 3)))
NO_TIES_OF_THREE = [(1, 0), (2, 0), (2, 1), (0, 0), (0, 3), (-1, 0), (3, 4), (0,), (), (0, 1, 2), [0, 1], [A], (A,), (A, B),
                    "01", "0-1", "", None, 0, 1, True, False, (0, True), (False, 1), (False, True), (True, 2), {0: 1}, {},
                    (None, None), ("0", "1"), ((0,), (1,)), ("tie", 0, 1), -1, 10 ** 30 - 1]
NO_TRUTHS = [0, 1, -1, 2, None, "", "yes", "no", "True", (), (True,), [], [True], {}, {True: True}, 10 ** 29]


def settled_by_hand(frame, wish, known):
    truths = {has_by_hand(frame, wish, web) for web in fitting_by_hand(frame, known)}
    return truths.pop() if len(truths) == 1 else None


def first_best_by_hand(frame, wish, known):
    """The first tie with which the least is reached."""
    found = least_by_hand(frame, wish, known)
    for tie, truth in zip(frame[1], known):
        if found and truth is None:
            more = [least_by_hand(frame, wish, with_tie(frame, known, tie, answer)) for answer in (True, False)]
            if max(more) < found:
                return tie
    return None


class Games(unittest.TestCase):
    def stands(self, game, frame, wish, known):
        """All that a game tells is right for what is known."""
        self.assertEqual(kinds_of(game.known()), kinds_of(known))
        self.assertIs(game.settled(), settled_by_hand(frame, wish, known), (frame, wish, known))
        self.assertEqual(game.left(), least_by_hand(frame, wish, known), (frame, wish, known))
        self.assertIs(type(game.left()), int)
        self.assertEqual(game.best(), first_best_by_hand(frame, wish, known), (frame, wish, known))
        self.assertTrue(plain(game.best()))

    def foe_answers(self, game, frame, wish, tie):
        """The foe's answer, looked at."""
        before = game.known()
        left = least_by_hand(frame, wish, before)
        truth = game.foe(tie)
        self.assertIs(type(truth), bool)
        known = with_tie(frame, before, tie, truth)
        self.assertGreaterEqual(least_by_hand(frame, wish, known), left - 1)
        self.assertEqual(game.known(), known)
        self.assertGreaterEqual(game.left(), left - 1)
        return truth


class AtFirst(Games):
    def test_each_frame(self):
        chance = random.Random(26)
        for frame in FRAMES:
            for wish in [JOINED, ("odd",), ("many", 0), ("many", 99), some_wish(frame, chance, 2)]:
                self.stands(Game(frame, wish), frame, wish, nothing(frame))

    def test_by_hand(self):
        game = Game(ALL_THREE, JOINED)
        self.assertEqual(game.known(), (None, None, None))
        self.assertIsNone(game.settled())
        self.assertEqual(game.left(), 3)
        self.assertEqual(game.best(), A)
        self.assertEqual(Game(ALL_THREE, ("tie", 1, 2)).best(), C)

    def test_without_ties(self):
        for frame, truth in ((ONE_PLACE, True), (NO_TIES, False)):
            game = Game(frame, JOINED)
            self.assertEqual(game.known(), ())
            self.assertIs(game.settled(), truth)
            self.assertEqual(game.left(), 0)
            self.assertIsNone(game.best())
            for tie in (A, (0, 0), None, ()):
                self.assertRaises(NoTie, game.tell, tie, True)
                self.assertRaises(NoTie, game.foe, tie)
            self.assertRaises(NoBack, game.back)


class Tell(Games):
    def test_by_hand(self):
        game = Game(ALL_THREE, JOINED)
        self.assertIsNone(game.tell(B, True))
        self.assertEqual((game.known(), game.settled(), game.left(), game.best()), ((None, True, None), None, 2, A))
        self.assertIsNone(game.tell(A, False))
        self.assertEqual((game.known(), game.settled(), game.left(), game.best()), ((False, True, None), None, 1, C))
        self.assertIsNone(game.tell(C, True))
        self.assertEqual((game.known(), game.settled(), game.left(), game.best()), ((False, True, True), True, 0, None))

    def test_further_deeds_where_it_is_settled(self):
        game = Game(ALL_THREE, JOINED)
        game.tell(A, False)
        game.tell(B, False)
        self.assertIs(game.settled(), False)
        self.assertIsNone(game.best())
        game.tell(C, True)
        self.assertEqual(game.known(), (False, False, True))
        self.assertIs(game.settled(), False)

    def test_all_ties_in_each_order_and_each_way(self):
        for wish in (JOINED, ("ring",), ("odd",), ("tie", 0, 2)):
            for ties in itertools.permutations(ALL_THREE[1]):
                for truths in itertools.product((True, False), repeat=3):
                    game = Game(ALL_THREE, wish)
                    known = nothing(ALL_THREE)
                    for tie, truth in zip(ties, truths):
                        self.assertIsNone(game.tell(tie, truth))
                        known = with_tie(ALL_THREE, known, tie, truth)
                        self.stands(game, ALL_THREE, wish, known)

    def test_each_frame(self):
        chance = random.Random(260)
        for frame in FRAMES:
            wish = chance.choice(simple_wishes(frame, chance) + [some_wish(frame, chance, 3)] * 20)
            game = Game(frame, wish)
            known = nothing(frame)
            for tie in chance.sample(frame[1], len(frame[1])):
                truth = chance.choice((True, False))
                game.tell(tie, truth)
                known = with_tie(frame, known, tie, truth)
                self.stands(game, frame, wish, known)
                self.assertEqual(game.left(), least(frame, wish, known))
                self.assertIs(game.settled(), settled(frame, wish, known))
                self.assertEqual(game.best(), (best_asks(frame, wish, known) or [None])[0])


class Foe(Games):
    def test_whatever_is_asked_in_whatever_order(self):
        for frame in (ONE_TIE, ALL_THREE, SQUARE):
            for wish in (JOINED, ("ring",), ("odd",), ("tie", 0, 1), ("hub",), ("many", 0), ("many", 99)):
                for ties in itertools.permutations(frame[1]):
                    game = Game(frame, wish)
                    needed = game.left()
                    asked = 0
                    for tie in ties:
                        if game.settled() is None:
                            asked += 1
                        self.foe_answers(game, frame, wish, tie)
                    self.assertGreaterEqual(asked, needed)
                    self.assertIsNotNone(game.settled())

    def test_all_must_be_asked(self):
        chance = random.Random(261)
        for frame, wish in [(ALL_FOUR, JOINED), (RING_OF_SEVEN, ("many", 3)), (ROW_OF_EIGHT, JOINED),
                            (STAR_OF_EIGHT, ("hub",)), (RING_OF_SEVEN, ("odd",)), (RING_OF_SEVEN, ("lone",))]:
            for _ in range(6):
                game = Game(frame, wish)
                for count, tie in enumerate(chance.sample(frame[1], len(frame[1]))):
                    self.assertIsNone(game.settled(), (frame, wish))
                    self.assertEqual(game.left(), len(frame[1]) - count)
                    self.foe_answers(game, frame, wish, tie)
                self.assertIsNotNone(game.settled())

    def test_a_foe_who_answers_one_way_only_would_give_in(self):
        ties = STAR_OF_EIGHT[1]
        told = {}
        for wish in (("hub",), ("many", 1)):
            game = Game(STAR_OF_EIGHT, wish)
            told[wish] = [game.foe(tie) for tie in ties[:-1]]
            self.assertIsNone(game.settled())
        self.assertEqual(told, {("hub",): [True] * 6, ("many", 1): [False] * 6})

    def test_mixed_with_told_ties(self):
        chance = random.Random(262)
        for frame in FRAMES:
            for _ in range(3):
                wish = chance.choice(simple_wishes(frame, chance) + [some_wish(frame, chance, 3)] * 20)
                game = Game(frame, wish)
                known = nothing(frame)
                for tie in chance.sample(frame[1], len(frame[1])):
                    if chance.random() < 0.4:
                        truth = chance.choice((True, False))
                        game.tell(tie, truth)
                    else:
                        truth = self.foe_answers(game, frame, wish, tie)
                    known = with_tie(frame, known, tie, truth)
                    self.stands(game, frame, wish, known)


class Back(Games):
    def test_by_hand(self):
        game = Game(ALL_THREE, JOINED)
        game.tell(A, True)
        game.tell(B, False)
        self.assertIsNone(game.back())
        self.stands(game, ALL_THREE, JOINED, (True, None, None))
        game.tell(B, True)
        self.stands(game, ALL_THREE, JOINED, (True, True, None))
        game.back()
        game.back()
        self.stands(game, ALL_THREE, JOINED, (None, None, None))
        self.assertRaises(NoBack, game.back)
        game.tell(C, False)
        self.stands(game, ALL_THREE, JOINED, (None, None, False))

    def test_behind_the_foe(self):
        game = Game(ALL_THREE, JOINED)
        first = game.foe(B)
        game.foe(C)
        game.back()
        self.stands(game, ALL_THREE, JOINED, (None, first, None))
        game.tell(C, True)
        game.back()
        game.back()
        self.stands(game, ALL_THREE, JOINED, (None, None, None))
        self.assertRaises(NoBack, game.back)
        self.foe_answers(game, ALL_THREE, JOINED, B)

    def test_nothing_to_take_back(self):
        for frame in FRAMES:
            game = Game(frame, JOINED)
            for _ in range(2):
                with self.assertRaises(NoBack) as caught:
                    game.back()
                self.assertIsInstance(caught.exception, AskError)
            self.stands(game, frame, JOINED, nothing(frame))

    def test_many_deeds(self):
        chance = random.Random(263)
        for frame in FRAMES:
            wish = chance.choice([JOINED, ("ring",), some_wish(frame, chance, 2)])
            game = Game(frame, wish)
            past = [nothing(frame)]
            for _ in range(40):
                free = [tie for tie, truth in zip(frame[1], past[-1]) if truth is None]
                if chance.random() < 0.4 or not free:
                    if len(past) == 1:
                        self.assertRaises(NoBack, game.back)
                    else:
                        game.back()
                        past.pop()
                else:
                    tie = chance.choice(free)
                    truth = chance.choice((True, False))
                    if chance.random() < 0.5:
                        game.tell(tie, truth)
                    else:
                        truth = self.foe_answers(game, frame, wish, tie)
                    past.append(with_tie(frame, past[-1], tie, truth))
                self.assertEqual(kinds_of(game.known()), kinds_of(past[-1]))
            self.stands(game, frame, wish, past[-1])


class Refused(Games):
    def refused(self, game, error, deed, *things):
        """The deed is refused, and nothing is changed by it."""
        before = (game.known(), game.settled(), game.left(), game.best())
        with self.assertRaises(error) as caught:
            deed(*things)
        self.assertIs(type(caught.exception), error)
        self.assertIsInstance(caught.exception, AskError)
        self.assertEqual(kinds_of((game.known(), game.settled(), game.left(), game.best())), kinds_of(before))

    def games(self):
        """Games with nothing, something and all known, each with the number of deeds."""
        for truths in [(), (True,), (True, False), (False, False, False)]:
            game = Game(ALL_THREE, JOINED)
            for tie, truth in zip(ALL_THREE[1], truths):
                game.tell(tie, truth)
            yield game, len(truths)

    def test_no_tie(self):
        for game, _ in self.games():
            for wrong in NO_TIES_OF_THREE:
                for truth in (True, False):
                    self.refused(game, NoTie, game.tell, wrong, truth)
                self.refused(game, NoTie, game.foe, wrong)
        game = Game((3, (A, C)), JOINED)
        self.refused(game, NoTie, game.tell, B, True)
        self.refused(game, NoTie, game.foe, B)

    def test_strange_things(self):
        game = Game(ALL_THREE, JOINED)
        for at, thing in enumerate(strange_things()):
            with self.subTest(at=at), at_once():
                for wrong in (thing, (thing,), (0, thing), (thing, 1), (0, 1, thing)):
                    self.refused(game, NoTie, game.tell, wrong, True)
                    self.refused(game, NoTie, game.foe, wrong)
                    self.refused(game, NoTie, game.tell, wrong, thing)
                if not isinstance(thing, bool):
                    self.refused(game, NoTruth, game.tell, A, thing)

    def test_a_tie_that_is_known_already(self):
        for truth in (True, False):
            for again in (True, False):
                game = Game(ALL_THREE, JOINED)
                game.tell(B, truth)
                self.refused(game, NoTie, game.tell, B, again)
                self.refused(game, NoTie, game.foe, B)
                game.back()
                game.tell(B, again)
                self.stands(game, ALL_THREE, JOINED, (None, again, None))
        game = Game(ALL_THREE, JOINED)
        game.foe(B)
        self.refused(game, NoTie, game.tell, B, True)
        self.refused(game, NoTie, game.foe, B)

    def test_no_truth(self):
        for game, deeds in self.games():
            for tie in ALL_THREE[1][deeds:]:
                for wrong in NO_TRUTHS:
                    self.refused(game, NoTruth, game.tell, tie, wrong)

    def test_both_due_at_once(self):
        for game, deeds in self.games():
            for wrong in NO_TRUTHS:
                for tie in NO_TIES_OF_THREE + list(ALL_THREE[1][:deeds]):
                    self.refused(game, NoTie, game.tell, tie, wrong)

    def test_what_is_refused_can_not_be_taken_back(self):
        for game, deeds in self.games():
            for thing in (None, A if deeds else (1, 0)):
                self.refused(game, NoTie, game.tell, thing, True)
                self.refused(game, NoTie, game.foe, thing)
            for _ in range(deeds):
                game.back()
            self.refused(game, NoBack, game.back)
            self.stands(game, ALL_THREE, JOINED, (None, None, None))


class EachItsOwnWay(Games):
    def test_two_games_of_the_same_frame_and_wish(self):
        one, other = Game(ALL_THREE, JOINED), Game(ALL_THREE, JOINED)
        one.tell(A, True)
        self.stands(other, ALL_THREE, JOINED, (None, None, None))
        other.tell(A, False)
        other.foe(B)
        self.stands(one, ALL_THREE, JOINED, (True, None, None))
        one.back()
        self.assertRaises(NoBack, one.back)
        self.assertIs(other.known()[0], False)
        other.back()
        self.stands(other, ALL_THREE, JOINED, (False, None, None))

    def test_games_of_other_frames_and_wishes(self):
        games = [(frame, wish, Game(frame, wish)) for frame in (ALL_THREE, SQUARE, ONE_TIE) for wish in (JOINED, ("odd",))]
        for frame, wish, game in games:
            game.tell(frame[1][-1], False)
        for frame, wish, game in games:
            self.stands(game, frame, wish, nothing(frame)[:-1] + (False,))

    def test_what_was_told_stays(self):
        game = Game(ALL_THREE, JOINED)
        first = game.known()
        game.tell(A, True)
        second = game.known()
        game.foe(B)
        game.back()
        game.back()
        self.assertEqual((first, second), ((None, None, None), (True, None, None)))
        self.assertIs(type(first), tuple)

    def test_what_is_handed_in_stays(self):
        wish = ("told", (True, False, False, True) * 2)
        wrong = [0, 1]
        game = Game(ALL_THREE, wish)
        self.assertRaises(NoTie, game.tell, wrong, [True])
        game.tell(A, True)
        self.assertEqual(wrong, [0, 1])
        self.assertEqual(kinds_of(wish), kinds_of(("told", (True, False, False, True) * 2)))

    def test_asking_changes_nothing(self):
        game = Game(SQUARE, JOINED)
        game.tell((0, 3), False)
        for _ in range(3):
            self.stands(game, SQUARE, JOINED, (None, False, None, None))
        game.back()
        self.assertRaises(NoBack, game.back)


class GoodTime(Games):
    def test_seven_ties(self):
        wish = nested(("ring",), lambda inner: ("one", inner, ("sides",)), 11)
        with at_once(10):
            game = Game(RING_OF_SEVEN, wish)
            for tie in RING_OF_SEVEN[1]:
                game.left()
                game.best()
                game.settled()
                game.foe(tie)
            for _ in range(300):
                game.back()
                game.tell(RING_OF_SEVEN[1][-1], True)
                game.left()

    def test_the_table_is_reckoned_once(self):
        with mock.patch("allasked.least.table_of", side_effect=truths_by_hand) as table:
            game = Game(RING_OF_SEVEN, JOINED)
            self.assertLessEqual(table.call_count, 1)
            for deed in (game.left, game.best, game.settled, lambda: game.foe((0, 1))):
                before = table.call_count
                deed()
                self.assertLessEqual(table.call_count, before + 1)


if __name__ == "__main__":
    unittest.main()
