"""Lines: pieces of track, and joints between their ends."""

from turnline.errors import NoLine

MOST_PIECES = 40
MOST_JOINTS = 80


def other_end(end):
    """The other end of the same piece."""
    return end ^ 1


def piece_of(end):
    """The piece that an end belongs to."""
    return end // 2


def is_end(line, end):
    """Whether a number is that of an end of the line."""
    return 0 <= end < 2 * line[0]


def check_line(line):
    """Refuse with NoLine what is no line, or is beyond the bounds."""
    many, joints = line
    if many < 1 or many > MOST_PIECES:
        raise NoLine(f"a line has 1 to {MOST_PIECES} pieces")
    if len(joints) > MOST_JOINTS:
        raise NoLine(f"a line has at most {MOST_JOINTS} joints")
    seen = set()
    for joint in joints:
        check_joint(line, joint)
        if joint in seen:
            raise NoLine("a joint stands twice in the line")
        seen.add(joint)


def check_joint(line, joint):
    """Refuse with NoLine what is no joint of two unlike pieces, the lesser end first."""
    low, high = joint
    if not is_end(line, low) or not is_end(line, high):
        raise NoLine("a joint has an end of no piece")
    if low > high:
        raise NoLine("a joint has its greater end first")
    if piece_of(low) == piece_of(high):
        raise NoLine("a joint has ends of one piece alone")


def joined(line, end):
    """The ends that are in a joint with this end, rising."""
    joints = line[1]
    above = [high for low, high in joints if low == end]
    below = [low for low, high in joints if high == end]
    return sorted(below + above)


def hang_together(line, piece):
    """The pieces to which joints lead from this piece, itself among them, rising."""
    found = {piece}
    waiting = [piece]
    while waiting:
        here = waiting.pop()
        for end in joined(line, 2 * here) + joined(line, 2 * here + 1):
            there = piece_of(end)
            if there not in found:
                found.add(there)
                waiting.append(there)
    return sorted(found)
