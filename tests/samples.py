"""What the tests share: frames, strange things, reckonings of their own."""

import contextlib
import functools
import itertools
import signal

ALL_THREE = (3, ((0, 1), (0, 2), (1, 2)))
ALL_FOUR = (4, ((0, 1), (0, 2), (0, 3), (1, 2), (1, 3), (2, 3)))
ONE_PLACE = (1, ())
ONE_TIE = (2, ((0, 1),))
NO_TIES = (4, ())
RING_OF_SEVEN = (7, ((0, 1), (0, 6), (1, 2), (2, 3), (3, 4), (4, 5), (5, 6)))
ROW_OF_EIGHT = (8, tuple((k, k + 1) for k in range(7)))
STAR_OF_EIGHT = (8, tuple((0, k) for k in range(1, 8)))

FRAMES = [
    ONE_PLACE,
    (2, ()),
    (8, ()),
    NO_TIES,
    ONE_TIE,
    (3, ((0, 2),)),
    (3, ((0, 1), (1, 2))),
    ALL_THREE,
    (4, ((0, 3), (1, 2))),
    (4, ((0, 1), (0, 3), (1, 2), (2, 3))),
    ALL_FOUR,
    (5, ((0, 1), (0, 4), (1, 2), (2, 3), (3, 4))),
    (5, ((0, 1), (0, 2), (0, 3), (1, 2), (1, 3), (2, 3), (3, 4))),
    (5, ((0, 2), (0, 3), (0, 4), (1, 2), (1, 3), (1, 4))),
    (6, ((0, 1), (0, 2), (1, 2), (2, 3), (3, 4), (3, 5), (4, 5))),
    (7, ((0, 1), (0, 2), (1, 2), (3, 4), (3, 6), (4, 5), (5, 6))),
    (8, ((0, 7), (1, 6), (1, 7), (6, 7))),
    RING_OF_SEVEN,
    ROW_OF_EIGHT,
    STAR_OF_EIGHT,
]


def all_webs(frame):
    """All webs, by counting through their numbers."""
    ties = frame[1]
    found = []
    for number in range(2 ** len(ties)):
        found.append(tuple(tie for k, tie in enumerate(ties) if number >> k & 1))
    return found


def all_known(frame):
    """All that may be known of a frame."""
    return list(itertools.product((None, True, False), repeat=len(frame[1])))


def nothing(frame):
    """Nothing known of a frame."""
    return (None,) * len(frame[1])


def some_known(frame, chance, count):
    """So many things known, by chance."""
    return [tuple(chance.choice((None, True, False)) for _ in frame[1]) for _ in range(count)]


def fitting_by_hand(frame, known):
    """The webs that fit, in order."""
    found = []
    for web in all_webs(frame):
        if all(truth is None or truth is (tie in web) for tie, truth in zip(frame[1], known)):
            found.append(web)
    return found


def roots(frame, web):
    """For each place the first place of its piece, by naming over and over."""
    names = list(range(frame[0]))
    for _ in range(frame[0]):
        for a, b in web:
            names[a] = names[b] = min(names[a], names[b])
    return names


def doubled(start, steps=30, make=lambda thing: (thing, thing)):
    """A thing in which the same thing stands twice at each step. Never show it."""
    thing = start
    for _ in range(steps):
        thing = make(thing)
    return thing


def nested(start, make, steps=30):
    """A thing in a thing in a thing, so many steps deep."""
    thing = start
    for _ in range(steps):
        thing = make(thing)
    return thing


def strange_things():
    """Things of all kinds, none of them a number, place, tie, frame or web with ties."""
    return [
        None, True, False, -1, -(10 ** 29), 10 ** 30 - 1,
        "", " ", "0", "1", "01", "0-1", "tie", "odd", "end", "ask", "places 3: 0-1", "~" * 2000,
        (None,), ("",), (True, False), (None, None), ((),), ([],), ({},), ("a", "b"),
        (-1, -2), ((0,),), ((0, 1, 2),), ([0, 1],), ("01",), ("tie",), ("end",), ("ask",),
        [], [None], [[]], [0], [0, 1], [(0, 1)], [3, ()], [3, [(0, 1)]], [()],
        {}, {0: 1}, {"a": [1]}, {(0, 1): True}, {"tie": (0, 1)}, {0: {0: {0: None}}},
        nested((), lambda thing: (thing,)), nested([], lambda thing: [thing]),
        nested({}, lambda thing: {"a": thing}), nested("a", lambda thing: ("not", thing)),
        nested(0, lambda thing: [(thing,)], 15), tuple([None] * 300), [0] * 300,
        doubled(()), doubled([], make=lambda thing: [thing, thing]),
        doubled({}, make=lambda thing: {"a": thing, "b": thing}),
    ]


@contextlib.contextmanager
def at_once(seconds=20):
    """Fail, rather than go on without end, where an answer takes very long."""
    def too_long(number, frame):
        raise AssertionError("this took too long")
    former = signal.signal(signal.SIGALRM, too_long)
    signal.alarm(seconds)
    try:
        yield
    finally:
        signal.alarm(0)
        signal.signal(signal.SIGALRM, former)


def plain(thing):
    """Whether a thing is made of plain tuples, lists, numbers, truths, texts and None."""
    if type(thing) in (tuple, list):
        return all(plain(part) for part in thing)
    return thing is None or type(thing) in (int, bool, str)


def kinds_of(thing):
    """A thing with the kinds of its parts, so that 1 and True are told apart."""
    if type(thing) in (tuple, list):
        return (type(thing).__name__, [kinds_of(part) for part in thing])
    return (type(thing).__name__, thing)


def some_sides(frame, web):
    """Whether some of all lists of 0 and 1 are sides."""
    rows = itertools.product((0, 1), repeat=frame[0])
    return any(all(row[a] != row[b] for a, b in web) for row in rows)


def tied(web, a, b):
    return (min(a, b), max(a, b)) in web


def has_single(frame, word, web):
    """Whether a web has the wish of one word, reckoned otherwise than the program does it."""
    many = frame[0]
    if word == "odd":
        return len(web) in (1, 3, 5, 7)
    if word == "joined":
        return len(set(roots(frame, web))) == 1
    if word == "ring":
        return len(web) != many - len(set(roots(frame, web)))
    if word == "three":
        threes = itertools.combinations(range(many), 3)
        return any(tied(web, a, b) and tied(web, a, c) and tied(web, b, c) for a, b, c in threes)
    if word == "hub":
        return any(all(tied(web, a, b) for b in range(many) if b != a) for a in range(many))
    if word == "lone":
        return any(not any(tied(web, a, b) for b in range(many)) for a in range(many))
    if word == "sides":
        return some_sides(frame, web)
    raise KeyError(word)


def has_by_hand(frame, wish, web):
    """Whether a web has a wish, reckoned otherwise than the program does it."""
    if wish[0] == "tie":
        return wish[1:] in web
    if wish[0] == "many":
        return not len(web) < wish[1]
    if wish[0] == "way":
        names = roots(frame, web)
        return names[wish[1]] == names[wish[2]]
    if wish[0] == "ends":
        return not sum(wish[1] in tie for tie in web) < wish[2]
    if wish[0] == "told":
        return wish[1][all_webs(frame).index(web)]
    if wish[0] == "not":
        return has_by_hand(frame, wish[1], web) is False
    if wish[0] == "missing":
        return has_by_hand(frame, wish[1], tuple(tie for tie in frame[1] if tie not in web))
    if len(wish) == 3:
        so = (has_by_hand(frame, wish[1], web), has_by_hand(frame, wish[2], web))
        return {"both": sum(so) == 2, "either": sum(so) > 0, "one": sum(so) == 1}[wish[0]]
    return has_single(frame, wish[0], web)


SINGLES = ["odd", "joined", "ring", "three", "hub", "lone", "sides"]


def simple_wishes(frame, chance):
    """Wishes of each kind without wishes in them."""
    many, ties = frame
    found = [(word,) for word in SINGLES]
    found += [("tie", a, b) for a, b in ties]
    found += [("way", a, b) for a, b in itertools.combinations(range(many), 2)]
    found += [("many", k) for k in (0, 1, 2, len(ties), len(ties) + 1, 99)]
    found += [("ends", a, k) for a in range(many) for k in (0, 1, 2, 3, 99)]
    found += [("told", tuple(chance.random() < 0.5 for _ in range(2 ** len(ties)))) for _ in range(3)]
    return found


def some_wish(frame, chance, steps):
    """A wish with wishes in it, at most so many steps deep."""
    word = chance.choice(["not", "missing", "both", "either", "one", "plain"]) if steps else "plain"
    if word == "plain":
        return chance.choice(simple_wishes(frame, chance))
    if word in ("not", "missing"):
        return (word, some_wish(frame, chance, steps - 1))
    return (word, some_wish(frame, chance, steps - 1), some_wish(frame, chance, steps - 1))


def full_plan(frame, wish, known, order=None):
    """A plan that asks all ties that are not known, in order."""
    ties = [tie for tie, truth in zip(frame[1], known) if truth is None] if order is None else order
    if not ties:
        web = tuple(tie for tie, truth in zip(frame[1], known) if truth)
        return ("end", has_by_hand(frame, wish, web))
    at = frame[1].index(ties[0])
    there = known[:at] + (True,) + known[at + 1:]
    gone = known[:at] + (False,) + known[at + 1:]
    return ("ask", ties[0], full_plan(frame, wish, there, ties[1:]), full_plan(frame, wish, gone, ties[1:]))


def all_plans(ties):
    """All plans that ask only of these ties, none twice on one way."""
    found = [("end", True), ("end", False)]
    for tie in ties:
        inner = all_plans([other for other in ties if other != tie])
        found += [("ask", tie, there, gone) for there in inner for gone in inner]
    return found


def end_by_hand(plan, web):
    """The truth at the end to which a web leads."""
    if plan[0] == "end":
        return plan[1]
    return end_by_hand(plan[2 if plan[1] in web else 3], web)


def fault_by_hand(frame, wish, known, plan):
    """The first web that fits of which a plan tells the wrong truth, or None."""
    wrong = []
    for web in fitting_by_hand(frame, known):
        if end_by_hand(plan, web) is not has_by_hand(frame, wish, web):
            wrong.append(web)
    return wrong[0] if wrong else None


def some_plan(ties, chance):
    """A plan that asks some of these ties, by chance."""
    if not ties or chance.random() < 0.2:
        return ("end", chance.random() < 0.5)
    tie = chance.choice(ties)
    left = [other for other in ties if other != tie]
    return ("ask", tie, some_plan(left, chance), some_plan(left, chance))


def with_end_changed(plan, web):
    """The plan with the other truth at the end to which a web leads."""
    if plan[0] == "end":
        return ("end", not plan[1])
    if plan[1] in web:
        return ("ask", plan[1], with_end_changed(plan[2], web), plan[3])
    return ("ask", plan[1], plan[2], with_end_changed(plan[3], web))


def with_tie(frame, known, tie, truth):
    """What is known, with one tie more."""
    return tuple(truth if other == tie else former for other, former in zip(frame[1], known))


@functools.lru_cache(maxsize=None)
def turns_by_hand(frame):
    """All turns of a frame, looked for among all orders."""
    ties = {frozenset(tie) for tie in frame[1]}
    found = []
    for order in itertools.permutations(range(frame[0])):
        if {frozenset((order[a], order[b])) for a, b in frame[1]} == ties:
            found.append(order)
    return found


def turned_by_hand(order, web):
    """The web of the ties that become of these."""
    ties = [frozenset((order[a], order[b])) for a, b in web]
    return tuple(sorted(tuple(sorted(tie)) for tie in ties))


@functools.lru_cache(maxsize=None)
def least_of_truths(truths):
    """The least for this tuple of truths, one for each web; with each ask half of them stay."""
    if len(set(truths)) == 1:
        return 0
    found = []
    step = 1
    while step < len(truths):
        gone = tuple(truth for at, truth in enumerate(truths) if not at & step)
        there = tuple(truth for at, truth in enumerate(truths) if at & step)
        found.append(1 + max(least_of_truths(gone), least_of_truths(there)))
        step *= 2
    return min(found)


def truths_by_hand(frame, wish):
    """The truths of a wish, for all webs by their numbers."""
    return tuple(has_by_hand(frame, wish, web) for web in all_webs(frame))


def least_by_hand(frame, wish, known):
    """The least from something known, had of the truths of the webs that fit alone."""
    return least_of_truths(tuple(has_by_hand(frame, wish, web) for web in fitting_by_hand(frame, known)))


def turned_known_by_hand(frame, order, known):
    """What becomes of what is known, tie by tie."""
    by_tie = {turned_by_hand(order, (tie,))[0]: truth for tie, truth in zip(frame[1], known)}
    return tuple(by_tie[tie] for tie in frame[1])


def keeps_by_hand(frame, wish, order):
    """Whether each web and what it becomes have the wish alike."""
    webs = all_webs(frame)
    return all(has_by_hand(frame, wish, web) == has_by_hand(frame, wish, turned_by_hand(order, web)) for web in webs)


def two_by_hand(frame, wish, known):
    """A web that fits and has the wish, and one that fits and hasn't."""
    webs = fitting_by_hand(frame, known)
    yes = [web for web in webs if has_by_hand(frame, wish, web)]
    no = [web for web in webs if not has_by_hand(frame, wish, web)]
    return (yes[0], no[-1])


def paper_by_hand(frame, wish, known, orders=()):
    """A paper that holds out for the least; by orders that keep the wish a row stands for many."""
    orders = list(orders) or [tuple(range(frame[0]))]
    goals = [known]
    rows = []
    while len(rows) < len(goals):
        at = goals[len(rows)]
        rest = least_by_hand(frame, wish, at)
        moves = []
        for tie in [tie for tie, truth in zip(frame[1], at) if truth is None and rest >= 2]:
            answers = [(least_by_hand(frame, wish, with_tie(frame, at, tie, truth)), truth) for truth in (False, True)]
            truth = max(answers)[1]
            goal = with_tie(frame, at, tie, truth)
            found = [(turned_known_by_hand(frame, order, goal), order) for order in orders]
            known_ones = [pair for pair in found if pair[0] in goals]
            turned, order = known_ones[0] if known_ones else found[0]
            if turned not in goals:
                goals.append(turned)
            moves.append((truth, goals.index(turned), order))
        rows.append((at, rest, two_by_hand(frame, wish, at) if rest else (), tuple(moves)))
    return rows
