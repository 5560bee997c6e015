"""Point 6: pieces, rings, sides."""

import unittest

from allasked.shapes import pieces, ring_of, sides_of
from tests.samples import ALL_FOUR, ALL_THREE, FRAMES, NO_TIES, ONE_PLACE, RING_OF_SEVEN, ROW_OF_EIGHT
from tests.samples import STAR_OF_EIGHT, all_webs, at_once, plain, roots, some_sides

TWO_THREES = (6, ((0, 1), (0, 2), (1, 2), (3, 4), (3, 5), (4, 5)))
RING_OF_SIX = (6, ((0, 1), (0, 5), (1, 2), (2, 3), (3, 4), (4, 5)))


def is_ring(web, thing):
    """Whether a thing is a ring of the web."""
    if type(thing) is not list or len(thing) < 3 or len(set(thing)) != len(thing):
        return False
    nexts = thing[1:] + thing[:1]
    return all((min(a, b), max(a, b)) in web for a, b in zip(thing, nexts))


class Pieces(unittest.TestCase):
    def test_by_hand(self):
        self.assertEqual(pieces(ALL_FOUR, ()), [[0], [1], [2], [3]])
        self.assertEqual(pieces(ALL_FOUR, ((0, 3),)), [[0, 3], [1], [2]])
        self.assertEqual(pieces(ALL_FOUR, ((0, 3), (1, 2))), [[0, 3], [1, 2]])
        self.assertEqual(pieces(ALL_FOUR, ((0, 3), (1, 3), (2, 3))), [[0, 1, 2, 3]])
        self.assertEqual(pieces(ALL_FOUR, ((1, 3), (2, 3))), [[0], [1, 2, 3]])
        self.assertEqual(pieces(ALL_FOUR, ALL_FOUR[1]), [[0, 1, 2, 3]])
        self.assertEqual(pieces(TWO_THREES, TWO_THREES[1]), [[0, 1, 2], [3, 4, 5]])

    def test_without_ties(self):
        self.assertEqual(pieces(ONE_PLACE, ()), [[0]])
        self.assertEqual(pieces(NO_TIES, ()), [[0], [1], [2], [3]])
        for many in range(1, 9):
            self.assertEqual(pieces((many, ()), ()), [[place] for place in range(many)])

    def test_a_way_to_and_fro(self):
        frame = (8, ((0, 7), (1, 6), (1, 7), (2, 5), (2, 6), (3, 4), (3, 5)))
        self.assertEqual(pieces(frame, frame[1]), [[0, 1, 2, 3, 4, 5, 6, 7]])
        self.assertEqual(pieces(frame, frame[1][:2] + frame[1][3:]), [[0, 7], [1, 2, 3, 4, 5, 6]])

    def test_each_web(self):
        for frame in FRAMES:
            for web in all_webs(frame):
                names = roots(frame, web)
                by_hand = []
                for first in sorted(set(names)):
                    by_hand.append([place for place in range(frame[0]) if names[place] == first])
                told = pieces(frame, web)
                self.assertEqual(told, by_hand, (frame, web))
                self.assertTrue(plain(told))
                self.assertIs(type(told), list)
                self.assertTrue(all(type(piece) is list for piece in told))


class RingOf(unittest.TestCase):
    def test_none(self):
        self.assertIsNone(ring_of(ONE_PLACE, ()))
        self.assertIsNone(ring_of(NO_TIES, ()))
        self.assertIsNone(ring_of(ALL_THREE, ((0, 1), (0, 2))))
        self.assertIsNone(ring_of(ALL_FOUR, ((0, 1), (0, 2), (0, 3))))
        self.assertIsNone(ring_of(ROW_OF_EIGHT, ROW_OF_EIGHT[1]))
        self.assertIsNone(ring_of(STAR_OF_EIGHT, STAR_OF_EIGHT[1]))

    def test_three(self):
        self.assertEqual(sorted(ring_of(ALL_THREE, ALL_THREE[1])), [0, 1, 2])
        web = ((0, 2), (1, 2), (1, 3), (2, 3))
        self.assertEqual(sorted(ring_of(ALL_FOUR, web)), [1, 2, 3])

    def test_all_places(self):
        told = ring_of(RING_OF_SEVEN, RING_OF_SEVEN[1])
        self.assertEqual(sorted(told), [0, 1, 2, 3, 4, 5, 6])
        self.assertTrue(is_ring(RING_OF_SEVEN[1], told))
        self.assertTrue(is_ring(RING_OF_SIX[1], ring_of(RING_OF_SIX, RING_OF_SIX[1])))

    def test_each_web(self):
        for frame in FRAMES + [TWO_THREES, RING_OF_SIX]:
            for web in all_webs(frame):
                with at_once():
                    told = ring_of(frame, web)
                # Without a ring there is one tie for each place that is not the first of its piece.
                if len(web) == frame[0] - len(set(roots(frame, web))):
                    self.assertIsNone(told, (frame, web))
                else:
                    self.assertTrue(is_ring(web, told), (frame, web, told))
                    self.assertTrue(plain(told))


class SidesOf(unittest.TestCase):
    def test_none(self):
        self.assertIsNone(sides_of(ALL_THREE, ALL_THREE[1]))
        self.assertIsNone(sides_of(RING_OF_SEVEN, RING_OF_SEVEN[1]))
        self.assertIsNone(sides_of(ALL_FOUR, ALL_FOUR[1]))
        self.assertIsNone(sides_of(TWO_THREES, ((0, 1), (3, 4), (3, 5), (4, 5))))

    def test_some(self):
        self.assertIn(sides_of(ONE_PLACE, ()), ([0], [1]))
        self.assertIn(sides_of(ALL_THREE, ((0, 1), (0, 2))), ([0, 1, 1], [1, 0, 0]))
        square = ((0, 1), (0, 3), (1, 2), (2, 3))
        self.assertIn(sides_of(ALL_FOUR, square), ([0, 1, 0, 1], [1, 0, 1, 0]))
        self.assertIn(sides_of(RING_OF_SIX, RING_OF_SIX[1]), ([0, 1] * 3, [1, 0] * 3))

    def test_each_web(self):
        for frame in FRAMES + [TWO_THREES, RING_OF_SIX]:
            for web in all_webs(frame):
                told = sides_of(frame, web)
                if not some_sides(frame, web):
                    self.assertIsNone(told, (frame, web))
                    continue
                self.assertIs(type(told), list)
                self.assertEqual(len(told), frame[0])
                self.assertTrue(all(type(side) is int and side in (0, 1) for side in told), told)
                self.assertTrue(all(told[a] != told[b] for a, b in web), (frame, web, told))


class ShapesAreKept(unittest.TestCase):
    def test_lists_told_are_the_askers_own(self):
        web = ALL_FOUR[1]
        square = ((0, 1), (0, 3), (1, 2), (2, 3))
        kept = pieces(ALL_FOUR, square), ring_of(ALL_FOUR, web), sides_of(ALL_FOUR, square)
        told = pieces(ALL_FOUR, square)
        told[0].append("more")
        told.append([9])
        ring_of(ALL_FOUR, web).clear()
        sides_of(ALL_FOUR, square)[0] = "gone"
        self.assertEqual(kept[0], [[0, 1, 2, 3]])
        self.assertEqual(pieces(ALL_FOUR, square), [[0, 1, 2, 3]])
        self.assertTrue(is_ring(web, kept[1]))
        self.assertTrue(is_ring(web, ring_of(ALL_FOUR, web)))
        for sides in (kept[2], sides_of(ALL_FOUR, square)):
            self.assertIn(sides, ([0, 1, 0, 1], [1, 0, 1, 0]))

    def test_pieces_are_unlike_lists(self):
        told = pieces(NO_TIES, ())
        told[0].append(9)
        self.assertEqual(told, [[0, 9], [1], [2], [3]])
        self.assertEqual(pieces(NO_TIES, ()), [[0], [1], [2], [3]])


if __name__ == "__main__":
    unittest.main()
