"""The refusals, a class for each; none but TurnError stands above another one."""


class TurnError(ValueError):
    """Any refusal."""


class NoLine(TurnError):
    """What was handed in as a line is none."""


class NoTrain(TurnError):
    """What was handed in as a train is none of the line."""


class NoMove(TurnError):
    """What was handed in as a move is none of the train."""


class NoPiece(TurnError):
    """The number is that of no piece of the line."""


class TooMany(TurnError):
    """There are more standings or trains than are told."""


class NoText(TurnError):
    """The text tells nothing of the kind that was asked for."""


class NoRow(TurnError):
    """The row is none that the desk knows."""
