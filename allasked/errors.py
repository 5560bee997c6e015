"""The refusals."""


class AskError(ValueError):
    """Any refusal."""


class NoFrame(AskError):
    """What was handed in makes no frame."""


class NoWeb(AskError):
    """What was handed in makes no web of the frame."""


class NoGrowth(AskError):
    """The wish does not grow."""


class NoTurn(AskError):
    """Something is no turn of the frame."""


class NoTie(AskError):
    """Something is no tie that can be asked of or told."""


class NoTruth(AskError):
    """An answer is no truth."""


class NoBack(AskError):
    """There is no deed to take back."""


class NoText(AskError):
    """Something is not the text that it should be."""


class NoRow(AskError):
    """Something is no row that the desk knows."""
