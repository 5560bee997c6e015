"""Wishes, and which webs have them: points 7 and 8 of the document."""

from allasked.frames import is_place, is_tie, is_whole, missing, number_of, webs
from allasked.shapes import near, pieces, ring_of, sides_of, ways_from

MOST_PARTS = 24
MOST_COUNTED = 99
SINGLE_WORDS = ("odd", "joined", "ring", "three", "hub", "lone", "sides")
WISHES_WITHIN = {"not": 1, "missing": 1, "both": 2, "either": 2, "one": 2}


def is_counted(thing):
    """Tell whether a thing may stand for how many ties are wished at least."""
    return is_whole(thing) and 0 <= thing <= MOST_COUNTED


def is_table(frame, thing):
    """Tell whether a thing is a tuple with a truth for each web of the frame."""
    if not isinstance(thing, tuple) or len(thing) != len(webs(frame)):
        return False
    return all(isinstance(truth, bool) for truth in thing)


def is_wish_with_one(frame, word, thing):
    """Tell whether the word and the thing behind it are a wish without wishes in it."""
    if word == "many":
        return is_counted(thing)
    return word == "told" and is_table(frame, thing)


def is_wish_with_two(frame, word, one, other):
    """Tell whether the word and the two things behind it are a wish without wishes in it."""
    if word == "tie":
        return is_tie(frame, (one, other))
    if word == "way":
        return is_place(frame[0], one) and is_place(frame[0], other) and one < other
    return word == "ends" and is_place(frame[0], one) and is_counted(other)


def is_simple_wish(frame, thing):
    """Tell whether a tuple is a wish without wishes in it."""
    if len(thing) == 1:
        return thing[0] in SINGLE_WORDS
    if len(thing) == 2:
        return is_wish_with_one(frame, thing[0], thing[1])
    if len(thing) == 3:
        return is_wish_with_two(frame, thing[0], thing[1], thing[2])
    return False


def is_wish(frame, thing):
    """Tell whether a thing is a wish of the frame."""
    waiting = [thing]
    looked_at = 0
    while waiting:
        # The same thing may stand in itself so often that no end would be
        # reached, so the parts are counted as they are come upon.
        looked_at += 1
        if looked_at > MOST_PARTS:
            return False
        part = waiting.pop()
        # Only a text is looked up: other things may not be fit for it.
        if not isinstance(part, tuple) or len(part) == 0 or not isinstance(part[0], str):
            return False
        if part[0] in WISHES_WITHIN:
            if len(part) != 1 + WISHES_WITHIN[part[0]]:
                return False
            waiting.extend(part[1:])
        elif not is_simple_wish(frame, part):
            return False
    return True


def has_three(web):
    """Tell whether there is a ring of just three places."""
    for a, b in web:
        others = near(web, b)
        if any(place in others for place in near(web, a)):
            return True
    return False


def has_shape(frame, word, web):
    """Tell whether a web has the wish of this single word."""
    if word == "odd":
        return len(web) % 2 == 1
    if word == "joined":
        return len(pieces(frame, web)) == 1
    if word == "ring":
        return ring_of(frame, web) is not None
    if word == "three":
        return has_three(web)
    if word == "hub":
        return any(len(near(web, place)) == frame[0] - 1 for place in range(frame[0]))
    if word == "lone":
        return any(len(near(web, place)) == 0 for place in range(frame[0]))
    return sides_of(frame, web) is not None


def has_simple(frame, wish, web):
    """Tell whether a web has a wish without wishes in it."""
    word = wish[0]
    if word == "tie":
        return (wish[1], wish[2]) in web
    if word == "many":
        return len(web) >= wish[1]
    if word == "way":
        return wish[2] in ways_from(web, wish[1])
    if word == "ends":
        return len(near(web, wish[1])) >= wish[2]
    if word == "told":
        return wish[1][number_of(frame, web)]
    return has_shape(frame, word, web)


def has(frame, wish, web):
    """Tell whether a web has a wish."""
    word = wish[0]
    if word == "not":
        return not has(frame, wish[1], web)
    if word == "missing":
        return has(frame, wish[1], missing(frame, web))
    if word == "both":
        return has(frame, wish[1], web) and has(frame, wish[2], web)
    if word == "either":
        return has(frame, wish[1], web) or has(frame, wish[2], web)
    if word == "one":
        return has(frame, wish[1], web) != has(frame, wish[2], web)
    return has_simple(frame, wish, web)
