"""Runs with the fewest changes of direction, and the judge of the papers that show it.

A state is a standing, as a tuple, and a word: that of the last move of a run to it.
"""

from turnline.standings import are_standings, check_goal, first_steps, lists_of, run_back_from
from turnline.trains import moves_of

OTHER_WORD = {"on": "back", "back": "on"}


def gone_on(line, states, steps):
    """These states and all new ones that moves of their own words lead to, which costs no change.

    The steps to the new ones are noted down.
    """
    found = list(states)
    at = 0
    while at < len(found):
        standing, word = found[at]
        at += 1
        for move, behind in moves_of(line, list(standing)):
            state = (tuple(behind), word)
            if move[0] == word and state not in steps:
                steps[state] = ((standing, word), move)
                found.append(state)
    return found


def changed_over(states, steps):
    """The new states of the same standings with the other word; the steps to them, without a move, are noted down."""
    found = []
    for standing, word in states:
        state = (standing, OTHER_WORD[word])
        if state not in steps:
            steps[state] = ((standing, word), None)
            found.append(state)
    return found


def counted(line, train):
    """How few changes lead to each state, and the step that leads there (None to the first ones)."""
    start = tuple(train)
    # The first move is no change, whichever it is, so both words stand at the start.
    states = [(start, "on"), (start, "back")]
    steps = {state: None for state in states}
    counts = {}
    many = 0
    while states:
        states = gone_on(line, states, steps)
        for state in states:
            counts[state] = many
        states = changed_over(states, steps)
        many += 1
    return counts, steps


def fewest(line, train, goal):
    """A run to the goal with the fewest changes and ways that show it, or the standings among which it isn't."""
    check_goal(line, train, goal)
    standings = list(first_steps(line, train))
    aim = tuple(goal)
    if aim not in standings:
        return ("none", lists_of(standings))
    counts, steps = counted(line, train)
    word = "on" if counts[(aim, "on")] <= counts[(aim, "back")] else "back"
    ways = [(list(standing), counts[(standing, "on")], counts[(standing, "back")]) for standing in standings]
    return ("run", run_back_from(steps, (aim, word)), ways)


def allow_ways(line, ways, standing):
    """Whether this standing's numbers are near one another and allow for those behind its moves, which are listed."""
    on, back = ways[standing]
    if abs(on - back) > 1:
        return False
    for move, behind in moves_of(line, list(standing)):
        there = tuple(behind)
        if there not in ways:
            return False
        if move[0] == "on" and ways[there][0] > on:
            return False
        if move[0] == "back" and ways[there][1] > back:
            return False
    return True


def are_ways(line, train, rows):
    """Whether the rows are ways of the train."""
    if not are_standings(line, train, [standing for standing, on, back in rows]):
        return False
    ways = {tuple(standing): (on, back) for standing, on, back in rows}
    if ways.get(tuple(train)) != (0, 0):
        return False
    return all([allow_ways(line, ways, standing) for standing in ways])
