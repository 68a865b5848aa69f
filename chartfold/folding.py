"""Folding a chart into a flat machine: a table of states, the rows of what events do to them, and ways to them."""

from chartfold.errors import TooMany
from chartfold.keeping import started, step_behind
from chartfold.rooms import LAST_EVENT

MOST_STATES = 30

# The places in a row's entry.
BEHIND = 0
DEEDS = 1


class Flat:
    def __init__(self, states, rows, ways):
        # Copies, the rows too, so that no two machines share a list.
        self.states = list(states)
        self.rows = [list(row) for row in rows]
        self.ways = list(ways)


def folded(chart):
    states = [started(chart)]
    rows = []
    ways = [()]
    # The states without a row yet are those that the walk has still to take, by rising numbers.
    while len(rows) < len(states):
        state = states[len(rows)]
        way = ways[len(rows)]
        row = []
        for event in range(LAST_EVENT + 1):
            step = step_behind(chart, way, state, event)
            if step[0] not in states:
                check_one_more(states)
                states.append(step[0])
                ways.append(way + (event,))
            row.append((states.index(step[0]), step[1]))
        rows.append(row)
    return Flat(states, rows, ways)


def check_one_more(states):
    if len(states) == MOST_STATES:
        raise TooMany(f"the chart has more than {MOST_STATES} states")


def flat_run(flat, events):
    number = 0
    deeds = []
    for event in events:
        entry = entry_of(flat, number, event)
        number = entry[BEHIND]
        deeds.append(entry[DEEDS])
    return (number, deeds)


def entry_of(flat, number, event):
    row = flat.rows[number]
    if 0 <= event < len(row):
        return row[event]
    # As a chart does it: an event that nothing is told of leaves the state as it is.
    return (number, ())
