"""Frames and their webs: points 4 and 5 of the document."""

from allasked.errors import NoFrame, NoWeb

MOST_PLACES = 8
MOST_TIES = 7


def is_whole(thing):
    """Tell whether a thing is a whole number."""
    # True and False are ints to Python, but no whole numbers here.
    return isinstance(thing, int) and not isinstance(thing, bool)


def is_place(many, thing):
    """Tell whether a thing is one of so many places."""
    return is_whole(thing) and 0 <= thing < many


def is_pair(many, thing):
    """Tell whether a thing is a tuple of two unlike places, either way about."""
    if not isinstance(thing, tuple) or len(thing) != 2:
        return False
    return is_place(many, thing[0]) and is_place(many, thing[1]) and thing[0] != thing[1]


def is_rising(ties):
    """Tell whether each of these ties is less than the next one."""
    return all(ties[at] < ties[at + 1] for at in range(len(ties) - 1))


def is_frame(thing):
    """Tell whether a thing is a frame."""
    if not isinstance(thing, tuple) or len(thing) != 2:
        return False
    many, ties = thing
    if not is_whole(many) or not 1 <= many <= MOST_PLACES:
        return False
    if not isinstance(ties, tuple) or len(ties) > MOST_TIES:
        return False
    return all(is_pair(many, tie) and tie[0] < tie[1] for tie in ties) and is_rising(ties)


def sorted_ties(many, things):
    """The ties that these things stand for, in order; None where a thing stands for none."""
    if not isinstance(things, (list, tuple)):
        return None
    if not all(is_pair(many, pair) for pair in things):
        return None
    return tuple(sorted((min(pair), max(pair)) for pair in things))


def frame_of(many, ties):
    """The frame of so many places with these ties, or NoFrame."""
    # Places are numbered up to many, so many is looked at ahead of the ties.
    if not is_whole(many):
        raise NoFrame("many is no whole number")
    made = (many, sorted_ties(many, ties))
    if not is_frame(made):
        raise NoFrame("these make no frame")
    return made


def is_tie(frame, thing):
    """Tell whether a thing is a tie of the frame."""
    # (False, True) equals (0, 1), so being found among the ties is not enough.
    return is_pair(frame[0], thing) and thing in frame[1]


def is_web(frame, thing):
    """Tell whether a thing is a web of the frame."""
    if not isinstance(thing, tuple):
        return False
    return all(is_tie(frame, tie) for tie in thing) and is_rising(thing)


def web_of(frame, ties):
    """The web of the frame in which just these ties are there, or NoWeb."""
    made = sorted_ties(frame[0], ties)
    if not is_web(frame, made):
        raise NoWeb("these make no web of the frame")
    return made


def webs(frame):
    """All webs of the frame, in the order of their numbers."""
    found = [()]
    for tie in frame[1]:
        # The number of a tie weighs more than those of all ties ahead of it,
        # so the webs with it stand behind all those without it.
        found = found + [web + (tie,) for web in found]
    return found


def number_of(frame, web):
    """The number of a web."""
    number = 0
    weight = 1
    for tie in frame[1]:
        if tie in web:
            number += weight
        weight *= 2
    return number


def missing(frame, web):
    """The web of just those ties of the frame that the web has not."""
    return tuple(tie for tie in frame[1] if tie not in web)
