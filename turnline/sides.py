"""Turning round: markings that all joints keep, and runs that turn a train."""

from turnline.errors import NoPiece
from turnline.lines import hang_together, other_end, piece_of
from turnline.standings import least
from turnline.trains import turned


def is_marking(line, marking):
    """Whether the list has 0 or 1 for each end of the line, unlike for the two ends of a piece."""
    if len(marking) != 2 * line[0]:
        return False
    return all([sorted(marking[2 * piece:2 * piece + 2]) == [0, 1] for piece in range(line[0])])


def keeps(line, piece, marking):
    """Whether this is a marking that all joints of pieces that hang together with the piece keep."""
    if not is_marking(line, marking):
        return False
    pieces = hang_together(line, piece)
    joints = [joint for joint in line[1] if piece_of(joint[0]) in pieces]
    return all([marking[other_end(low)] == marking[high] for low, high in joints])


def marking_by(line, standings):
    """0 for each end by which a train of one piece can come onto a piece, and 1 for that end's other end."""
    # Where it can't be turned round it comes onto each piece that hangs together with its own by one end alone.
    marking = [0, 1] * line[0]
    for standing in standings:
        end = standing[0]
        marking[end] = 0
        marking[other_end(end)] = 1
    return marking


def sides(line, piece):
    """A marking that all joints of pieces that hang together with the piece keep, or a run that turns it round."""
    if piece < 0 or piece >= line[0]:
        raise NoPiece("the line has no piece of this number")
    told = turn(line, [2 * piece])
    if told[0] == "run":
        return ("run", told[1])
    return ("marking", marking_by(line, told[1]))


def turn(line, train):
    """What least tells for the train and, as the goal, the train turned round."""
    return least(line, train, turned(train))
