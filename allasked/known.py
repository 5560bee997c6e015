"""What is known of a frame: point 10 of the document."""

from allasked.frames import webs
from allasked.wishes import has


def is_known(frame, thing):
    """Tell whether a thing is something known of the frame."""
    if not isinstance(thing, tuple) or len(thing) != len(frame[1]):
        return False
    # 1 equals True and 0 equals False, so the kind is asked for.
    return all(truth is None or isinstance(truth, bool) for truth in thing)


def unknown(known):
    """The numbers of the ties that are not known, in order."""
    return [at for at, truth in enumerate(known) if truth is None]


def with_answer(known, at, truth):
    """What is known, with this truth for the tie of this number."""
    return known[:at] + (truth,) + known[at + 1:]


def fits(frame, known, web):
    """Tell whether a web fits what is known."""
    return all(truth is None or truth == (tie in web) for tie, truth in zip(frame[1], known))


def fitting(frame, known):
    """All webs that fit what is known, in the order of webs."""
    return [web for web in webs(frame) if fits(frame, known, web)]


def settled(frame, wish, known):
    """True where all webs that fit have the wish, False where none of them has it, else None."""
    truths = [has(frame, wish, web) for web in fitting(frame, known)]
    if all(truths):
        return True
    if any(truths):
        return None
    return False
