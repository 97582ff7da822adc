"""Texts of lines, trains and runs, written and read."""

from turnline.errors import NoText
from turnline.lines import check_line, piece_of

FIGURES = "0123456789"
MOST_FIGURES = 40


def show_end(end):
    """An end as its piece's number and the sign of the lesser or the other end."""
    piece = piece_of(end)
    return f"{piece}<" if end == 2 * piece else f"{piece}>"


def show_line(line):
    """The text of a line."""
    many, joints = line
    rows = [f"pieces {many}"]
    for low, high in joints:
        rows.append(f"joint {show_end(low)} {show_end(high)}")
    return "\n".join(rows)


def show_train(train):
    """The text of a train."""
    return " ".join([show_end(end) for end in train])


def show_run(run):
    """The text of a run."""
    if not run:
        return "-"
    return " ".join([f"{word} {show_end(end)}" for word, end in run])


def read_number(text):
    """The number that this text tells, or NoText."""
    if not text or len(text) > MOST_FIGURES:
        raise NoText(f"a number has 1 to {MOST_FIGURES} figures")
    if not all([sign in FIGURES for sign in text]):
        raise NoText("a number is written by its figures alone")
    if text[0] == "0" and text != "0":
        raise NoText("a number has no needless 0 ahead")
    return int(text)


def read_end(text):
    """The end that this text tells, or NoText."""
    piece = read_number(text[:-1])
    if text[-1] == "<":
        return 2 * piece
    if text[-1] == ">":
        return 2 * piece + 1
    raise NoText("an end is written as its piece's number and < or >")


def words_behind(row, word, many):
    """The words of a row behind its first one, which is to be this word, with so many behind it; or NoText."""
    words = row.split(" ")
    if words[0] != word or len(words) != many + 1:
        raise NoText(f"a row is to be {word} and {many} more, with one blank between")
    return words[1:]


def read_joint(row):
    """The joint that this row of a line's text tells, or NoText."""
    low, high = words_behind(row, "joint", 2)
    return (read_end(low), read_end(high))


def read_line(text):
    """The line that this text tells; NoText, or NoLine of what reads as a line that is none."""
    head, *tail = text.split("\n")
    many = read_number(words_behind(head, "pieces", 1)[0])
    line = (many, [read_joint(row) for row in tail])
    check_line(line)
    return line


def read_train(text):
    """The ends that this text of a train tells, or NoText; they are not held against a line."""
    return [read_end(word) for word in text.split(" ")]


def read_move(word, end):
    """The move that these two words tell, or NoText."""
    if word not in ("on", "back"):
        raise NoText("a move is on or back, and an end")
    return (word, read_end(end))


def read_run(text):
    """The moves that this text of a run tells, or NoText; they are not held against a line."""
    if text == "-":
        return []
    words = text.split(" ")
    if len(words) % 2 == 1:
        raise NoText("a run is written by two words for each move")
    return [read_move(word, end) for word, end in zip(words[::2], words[1::2])]
