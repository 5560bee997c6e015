"""Frames, wishes, plans and what is known, written: point 27 of the document."""

from allasked.wishes import WISHES_WITHIN

SIGNS = {True: "+", False: "-", None: "."}


def tie_text(tie):
    """The text of a tie, or of two places."""
    return f"{tie[0]}-{tie[1]}"


def truth_text(truth):
    """The text of an answer."""
    return "yes" if truth else "no"


def frame_text(frame):
    """The text of a frame."""
    many, ties = frame
    return " ".join([f"places {many}:"] + [tie_text(tie) for tie in ties])


def known_text(known):
    """The text of what is known."""
    return "".join(SIGNS[truth] for truth in known)


def wish_text(wish):
    """The text of a wish."""
    word = wish[0]
    if word in WISHES_WITHIN:
        within = ";".join(wish_text(part) for part in wish[1:])
        return f"{word}({within})"
    if word in ("tie", "way"):
        return f"{word} {tie_text(wish[1:])}"
    if word == "told":
        return f"{word} {known_text(wish[1])}"
    return " ".join(str(part) for part in wish)


def plan_text(plan):
    """The text of a plan."""
    if plan[0] == "end":
        return truth_text(plan[1])
    return f"{tie_text(plan[1])}?({plan_text(plan[2])};{plan_text(plan[3])})"
