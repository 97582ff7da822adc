"""Standings that a train can come to, runs with the fewest moves, and the judges of both papers.

Within, a standing is kept as a tuple, so that it can be a key; lists are made of it where it is told.
"""

from turnline.errors import NoTrain, TooMany
from turnline.trains import check_train, moves_of

MOST_STANDINGS = 300


def check_goal(line, train, goal):
    """Refuse with NoTrain a goal that is no train, or of another length than the train."""
    check_train(line, goal)
    if len(goal) != len(train):
        raise NoTrain("the goal has another length than the train")


def first_steps(line, train):
    """Each standing that the train can come to, in order, with the standing ahead and the move that came to it first.

    The train itself has None. More standings than are told are refused with TooMany.
    """
    start = tuple(train)
    steps = {start: None}
    order = [start]
    at = 0
    while at < len(order):
        ahead = order[at]
        at += 1
        for move, behind in moves_of(line, list(ahead)):
            standing = tuple(behind)
            if standing not in steps:
                if len(order) == MOST_STANDINGS:
                    raise TooMany(f"there are more than {MOST_STANDINGS} standings")
                steps[standing] = (ahead, move)
                order.append(standing)
    return steps


def lists_of(standings):
    """The standings as lists, each a new one."""
    return [list(standing) for standing in standings]


def come_to(line, train):
    """All standings that the train can come to, by fewest moves; more than 300 are refused with TooMany."""
    return lists_of(first_steps(line, train))


def run_back_from(steps, goal):
    """The run of the moves by which the steps lead to the goal; a step with None as its move adds none."""
    run = []
    step = steps[goal]
    while step is not None:
        ahead, move = step
        if move is not None:
            run.append(move)
        step = steps[ahead]
    run.reverse()
    return run


def numbers_of(steps):
    """How few moves lead to each standing, as rows in the standings' order."""
    numbers = {}
    for standing, step in steps.items():
        # A standing's step comes from one further ahead in the order, whose number is known by then.
        numbers[standing] = 0 if step is None else numbers[step[0]] + 1
    return [(list(standing), number) for standing, number in numbers.items()]


def least(line, train, goal):
    """A run to the goal with the fewest moves and numbers that show it, or the standings among which it isn't."""
    check_goal(line, train, goal)
    steps = first_steps(line, train)
    aim = tuple(goal)
    if aim not in steps:
        return ("none", lists_of(steps))
    return ("run", run_back_from(steps, aim), numbers_of(steps))


def is_standing(line, train, listed):
    """Whether this is a train of the line, of as many pieces as the train."""
    if len(listed) != len(train):
        return False
    try:
        check_train(line, listed)
    except NoTrain:
        return False
    return True


def are_standings(line, train, standings):
    """Whether these are trains of the line, of as many pieces as the train, none twice."""
    if len({tuple(standing) for standing in standings}) < len(standings):
        return False
    return all([is_standing(line, train, standing) for standing in standings])


def allow_moves(line, numbers, standing):
    """Whether each one behind a move of this standing is listed with a number that is at most one more."""
    most = numbers[standing] + 1
    for move, behind in moves_of(line, list(standing)):
        there = tuple(behind)
        if there not in numbers or numbers[there] > most:
            return False
    return True


def are_numbers(line, train, rows):
    """Whether the rows are numbers of the train."""
    if not are_standings(line, train, [standing for standing, number in rows]):
        return False
    numbers = {tuple(standing): number for standing, number in rows}
    if numbers.get(tuple(train)) != 0:
        return False
    return all([allow_moves(line, numbers, standing) for standing in numbers])


def is_shut(line, train, standings):
    """Whether the standings are a shut list of the train."""
    # A list is shut just where like numbers all over it are numbers: then these allow every move within it.
    return are_numbers(line, train, [(standing, 0) for standing in standings])
