"""Reasons of webs: point 23 of the document."""

from allasked.frames import is_web, webs
from allasked.known import settled
from allasked.least import reckoned


def known_at(frame, web, ties):
    """What is known of a web where just these ties are looked at."""
    return tuple((tie in web) if tie in ties else None for tie in frame[1])


def by_fewest(frame):
    """All rising tuples of ties, those with the fewest first, else as tuples compare."""
    return sorted(webs(frame), key=lambda ties: (len(ties), ties))


def first_reason(frame, done, tuples, web):
    """The first of the tuples of ties that is a reason of a web."""
    at = 0
    # The last tuple has all ties: these are always a reason.
    while done[known_at(frame, web, tuples[at])][0] is None:
        at += 1
    return tuples[at]


def all_reckoned(frame, wish):
    """What is settled by all that may be known."""
    return reckoned(frame, wish, (None,) * len(frame[1]))


def is_reason(frame, wish, web, thing):
    """Tell whether a thing is a reason of a web."""
    # A rising tuple of ties is just what a web is, too.
    return is_web(frame, thing) and settled(frame, wish, known_at(frame, web, thing)) is not None


def reason(frame, wish, web):
    """The first, as tuples compare, of the reasons of a web with the fewest ties."""
    return first_reason(frame, all_reckoned(frame, wish), by_fewest(frame), web)


def greatest_reasons(frame, wish):
    """How many ties the greatest told reason has of webs that have the wish, and of those that haven't."""
    done = all_reckoned(frame, wish)
    tuples = by_fewest(frame)
    sizes = {True: [], False: []}
    for web in webs(frame):
        truth = done[known_at(frame, web, frame[1])][0]
        sizes[truth].append(len(first_reason(frame, done, tuples, web)))
    return (max(sizes[True], default=None), max(sizes[False], default=None))
