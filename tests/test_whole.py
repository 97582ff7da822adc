"""What is promised over the whole program: the interface, and what [2] says of every answer."""

import importlib
import inspect
import os
import subprocess
import sys
import unittest
from copy import deepcopy
from pathlib import Path

from tests.helper import LOOP, RING, TOO_MANY, TRIANGLE, chain, chance_lines, lists_in, names_of_lists
from turnline.changing import are_ways, fewest
from turnline.desk import Desk
from turnline.errors import TurnError
from turnline.finer import finer, finer_train
from turnline.groups import groups, longest, trains_of
from turnline.lines import check_line, hang_together, joined, other_end
from turnline.runs import changes, walked
from turnline.sides import keeps, sides, turn
from turnline.standings import are_numbers, come_to, is_shut, least
from turnline.texts import read_line, read_run, read_train, show_line, show_run, show_train
from turnline.trains import check_train, done, moves_of, turned

ROOT = Path(__file__).resolve().parent.parent

INTERFACE = {
    "lines": {
        "check_line": ["line"], "other_end": ["end"], "joined": ["line", "end"], "hang_together": ["line", "piece"]},
    "trains": {
        "check_train": ["line", "train"], "turned": ["train"], "moves_of": ["line", "train"],
        "done": ["line", "train", "move"]},
    "runs": {"walked": ["line", "train", "run"], "changes": ["run"]},
    "standings": {
        "come_to": ["line", "train"], "least": ["line", "train", "goal"], "are_numbers": ["line", "train", "rows"],
        "is_shut": ["line", "train", "standings"]},
    "changing": {"fewest": ["line", "train", "goal"], "are_ways": ["line", "train", "rows"]},
    "sides": {"sides": ["line", "piece"], "keeps": ["line", "piece", "marking"], "turn": ["line", "train"]},
    "groups": {"trains_of": ["line", "length"], "groups": ["line", "length"], "longest": ["line"]},
    "finer": {"finer": ["line"], "finer_train": ["train"]},
    "texts": {
        "show_line": ["line"], "show_train": ["train"], "show_run": ["run"], "read_line": ["text"],
        "read_train": ["text"], "read_run": ["text"]},
    "desk": {"Desk": []},
}


def askings():
    """Things to ask, of every function, refused ones among them; every list is made anew."""
    for line in [LOOP, RING, TRIANGLE, chain(3)] + list(chance_lines(12, 231)):
        line = deepcopy(line)
        train, goal, run = [0], [2], [("on", 2)]
        trains = [[0], [2]]
        yield from (
            (check_line, line), (joined, line, 1), (hang_together, line, 0), (other_end, 3), (check_train, line, train),
            (check_train, line, [0, 0]), (turned, train), (moves_of, line, train), (done, line, train, ("on", 2)),
            (walked, line, train, run), (changes, run), (come_to, line, train), (least, line, train, goal),
            (least, line, train, [1]), (fewest, line, train, goal), (fewest, line, train, [0, 0]),
            (are_numbers, line, train, [([0], 0), ([2], 1)]), (is_shut, line, train, trains),
            (are_ways, line, train, [([0], 0, 0), ([2], 0, 1)]), (sides, line, 0), (sides, line, 99),
            (keeps, line, 0, [0, 1] * line[0]), (turn, line, train), (trains_of, line, 2), (groups, line, 1),
            (groups, line, 3), (longest, line), (finer, line), (finer_train, train), (show_line, line),
            (show_train, train), (show_run, run), (read_line, "pieces 2\njoint 0> 1<"), (read_line, "pieces 0"),
            (read_train, "0< 1<"), (read_run, "on 1< back 0>"), (read_run, "on"))
    for line, train in deepcopy(TOO_MANY):
        yield from ((come_to, line, train), (turn, line, train), (groups, line, len(train)), (longest, line))


def answer(asking):
    """The answer, or the refusal's class."""
    deed, *given = asking
    try:
        return deed(*given)
    except TurnError as refusal:
        return type(refusal)


def all_answers():
    """Every answer as a text, and those of a desk."""
    desk = Desk()
    rows = ["line " + show_line(TRIANGLE), "train 1< 2<", "moves", "turn", "standings", "longest", "sides 0", "round"]
    rows += ["least 1< 2<", "fewest 1< 2<", "here", "sides 9", "on", "on 0"]
    return [repr(answer(asking)) for asking in askings()] + [repr(answer((desk.say, row))) for row in rows]


class Interface(unittest.TestCase):
    def test_names_and_arguments(self):
        for file, names in INTERFACE.items():
            module = importlib.import_module(f"turnline.{file}")
            for name, arguments in names.items():
                thing = getattr(module, name)
                self.assertEqual(thing.__module__, module.__name__)
                self.assertEqual(list(inspect.signature(thing).parameters), arguments, name)

    def test_the_desk(self):
        self.assertTrue(inspect.isclass(Desk))
        self.assertEqual(list(inspect.signature(Desk().say).parameters), ["row"])

    def test_every_function_is_asked(self):
        asked = {asking[0].__name__ for asking in askings()}
        named = {name for names in INTERFACE.values() for name in names}
        self.assertEqual(asked, named - {"Desk"})


class EveryAnswer(unittest.TestCase):
    def test_the_same_whatever_was_asked_ahead(self):
        first = [deepcopy(answer(asking)) for asking in askings()]
        for asking in askings():
            for told in lists_in(answer(asking)):
                told.clear()
        backward = [answer(asking) for asking in list(askings())[::-1]]
        self.assertEqual(backward[::-1], first)

    def test_no_list_of_another_answer_and_none_handed_in(self):
        given = list(askings())
        told = [answer(asking) for asking in given + given]
        names = names_of_lists(told)
        self.assertEqual(len(set(names)), len(names))
        self.assertTrue(set(names).isdisjoint(names_of_lists([asking[1:] for asking in given])))

    def test_nothing_handed_in_is_changed(self):
        for asking in askings():
            kept = deepcopy(asking[1:])
            for told in lists_in(answer(asking)):
                told.clear()
            self.assertEqual(asking[1:], kept)

    def test_refusals_and_answers_are_both_asked_for(self):
        refused = {told.__name__ for told in map(answer, askings()) if isinstance(told, type)}
        self.assertLessEqual({"NoLine", "NoTrain", "NoPiece", "TooMany", "NoText"}, refused)

    def test_nothing_hangs_on_how_python_mixes_its_keys(self):
        deed = "from tests.test_whole import all_answers; print('\\n'.join(all_answers()))"
        told = set()
        for seed in ("0", "1", "77"):
            surroundings = dict(os.environ, PYTHONHASHSEED=seed, PYTHONPATH=str(ROOT))
            done_so = subprocess.run(
                [sys.executable, "-c", deed], env=surroundings, cwd=ROOT, capture_output=True, text=True, check=True)
            told.add(done_so.stdout)
        self.assertEqual(told, {"\n".join(all_answers()) + "\n"})


if __name__ == "__main__":
    unittest.main()
