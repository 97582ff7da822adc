"""Finer lines: each piece parted in two."""

from turnline.lines import other_end


def finer_end(end):
    """What an end becomes: the outer end of one of its piece's halves."""
    return 2 * end + (end & 1)


def finer(line):
    """The finer line: the joints in their order, and behind them those between the two halves of a piece."""
    many, joints = line
    # A greater end becomes a greater one, so the lesser end of a joint stays the lesser one.
    old = [(finer_end(low), finer_end(high)) for low, high in joints]
    new = [(4 * piece + 1, 4 * piece + 2) for piece in range(many)]
    return (2 * many, old + new)


def finer_train(train):
    """The finer train: for each end the two ends by which one comes onto both halves."""
    ends = []
    for end in train:
        # The second half is left by what the piece's other end becomes, so it is come onto by that one's other end.
        ends += [finer_end(end), other_end(finer_end(other_end(end)))]
    return ends
