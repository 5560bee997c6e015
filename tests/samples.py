"""What the tests share: frames, strange things, reckonings of their own."""

import contextlib
import itertools
import signal

ALL_THREE = (3, ((0, 1), (0, 2), (1, 2)))
ALL_FOUR = (4, ((0, 1), (0, 2), (0, 3), (1, 2), (1, 3), (2, 3)))
ONE_PLACE = (1, ())
ONE_TIE = (2, ((0, 1),))
NO_TIES = (4, ())
RING_OF_SEVEN = (7, ((0, 1), (0, 6), (1, 2), (2, 3), (3, 4), (4, 5), (5, 6)))
ROW_OF_EIGHT = (8, tuple((k, k + 1) for k in range(7)))
STAR_OF_EIGHT = (8, tuple((0, k) for k in range(1, 8)))

FRAMES = [
    ONE_PLACE,
    (2, ()),
    (8, ()),
    NO_TIES,
    ONE_TIE,
    (3, ((0, 2),)),
    (3, ((0, 1), (1, 2))),
    ALL_THREE,
    (4, ((0, 3), (1, 2))),
    (4, ((0, 1), (0, 3), (1, 2), (2, 3))),
    ALL_FOUR,
    (5, ((0, 1), (0, 4), (1, 2), (2, 3), (3, 4))),
    (5, ((0, 1), (0, 2), (0, 3), (1, 2), (1, 3), (2, 3), (3, 4))),
    (5, ((0, 2), (0, 3), (0, 4), (1, 2), (1, 3), (1, 4))),
    (6, ((0, 1), (0, 2), (1, 2), (2, 3), (3, 4), (3, 5), (4, 5))),
    (7, ((0, 1), (0, 2), (1, 2), (3, 4), (3, 6), (4, 5), (5, 6))),
    (8, ((0, 7), (1, 6), (1, 7), (6, 7))),
    RING_OF_SEVEN,
    ROW_OF_EIGHT,
    STAR_OF_EIGHT,
]


def all_webs(frame):
    """All webs, by counting through their numbers."""
    ties = frame[1]
    found = []
    for number in range(2 ** len(ties)):
        found.append(tuple(tie for k, tie in enumerate(ties) if number >> k & 1))
    return found


def all_known(frame):
    """All that may be known of a frame."""
    return list(itertools.product((None, True, False), repeat=len(frame[1])))


def roots(frame, web):
    """For each place the first place of its piece, by naming over and over."""
    names = list(range(frame[0]))
    for _ in range(frame[0]):
        for a, b in web:
            names[a] = names[b] = min(names[a], names[b])
    return names


def doubled(start, steps=30, make=lambda thing: (thing, thing)):
    """A thing in which the same thing stands twice at each step. Never show it."""
    thing = start
    for _ in range(steps):
        thing = make(thing)
    return thing


def nested(start, make, steps=30):
    thing = start
    for _ in range(steps):
        thing = make(thing)
    return thing


def strange_things():
    """Things of all kinds, none of them a number, place, tie, frame or web with ties."""
    return [
        None, True, False, -1, -(10 ** 29), 10 ** 30 - 1,
        "", " ", "0", "1", "01", "0-1", "tie", "odd", "end", "ask", "places 3: 0-1", "~" * 2000,
        (None,), ("",), (True, False), (None, None), ((),), ([],), ({},), ("a", "b"),
        (-1, -2), ((0,),), ((0, 1, 2),), ([0, 1],), ("01",), ("tie",), ("end",), ("ask",),
        [], [None], [[]], [0], [0, 1], [(0, 1)], [3, ()], [3, [(0, 1)]], [()],
        {}, {0: 1}, {"a": [1]}, {(0, 1): True}, {"tie": (0, 1)}, {0: {0: {0: None}}},
        nested((), lambda thing: (thing,)), nested([], lambda thing: [thing]),
        nested({}, lambda thing: {"a": thing}), nested("a", lambda thing: ("not", thing)),
        nested(0, lambda thing: (thing, [thing])[:1]), tuple([None] * 300), [0] * 300,
        doubled(()), doubled([], make=lambda thing: [thing, thing]),
        doubled({}, make=lambda thing: {"a": thing, "b": thing}),
    ]


@contextlib.contextmanager
def at_once(seconds=20):
    """Fail, rather than go on without end, where an answer takes very long."""
    def too_long(number, frame):
        raise AssertionError("this took too long")
    former = signal.signal(signal.SIGALRM, too_long)
    signal.alarm(seconds)
    try:
        yield
    finally:
        signal.alarm(0)
        signal.signal(signal.SIGALRM, former)


def plain(thing):
    """Whether a thing is made of plain tuples, lists, numbers, truths, texts and None."""
    if type(thing) in (tuple, list):
        return all(plain(part) for part in thing)
    return thing is None or type(thing) in (int, bool, str)


def kinds_of(thing):
    """A thing with the kinds of its parts, so that 1 and True are told apart."""
    if type(thing) in (tuple, list):
        return (type(thing).__name__, [kinds_of(part) for part in thing])
    return (type(thing).__name__, thing)
