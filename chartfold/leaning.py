"""Leaning a flat machine: which of its states are alike, what parts the others, and the machine with one of each."""

from chartfold.folding import BEHIND, DEEDS, Flat


def alike(flat):
    groups = [0 for row in flat.rows]
    finer = refined(flat, groups)
    while finer != groups:
        groups = finer
        finer = refined(flat, groups)
    return groups


def refined(flat, groups):
    # A group goes by the least number in it, so that groups that part no more come out the same.
    least = {}
    finer = []
    for number, row in enumerate(flat.rows):
        look = tuple([(groups[entry[BEHIND]], entry[DEEDS]) for entry in row])
        finer.append(least.setdefault((groups[number], look), number))
    return finer


def parted(flat, one, other):
    ways = {(one, other): ()}
    pairs = [(one, other)]
    # A pair comes up behind all those with a shorter way or a lesser one, so the first difference met counts.
    while len(pairs) > 0:
        pair = pairs.pop(0)
        event = first_difference(flat, pair)
        if event is not None:
            return ways[pair] + (event,)
        for event, behind in enumerate(pairs_behind(flat, pair)):
            if behind not in ways:
                ways[behind] = ways[pair] + (event,)
                pairs.append(behind)
    return None


def first_difference(flat, pair):
    for event, entries in enumerate(entries_of(flat, pair)):
        if entries[0][DEEDS] != entries[1][DEEDS]:
            return event
    return None


def pairs_behind(flat, pair):
    return [(entries[0][BEHIND], entries[1][BEHIND]) for entries in entries_of(flat, pair)]


def entries_of(flat, pair):
    return list(zip(flat.rows[pair[0]], flat.rows[pair[1]]))


def leaned(flat):
    least = alike(flat)
    left = [number for number in range(len(least)) if least[number] == number]
    states = [flat.states[number] for number in left]
    rows = [leaned_row(flat.rows[number], least, left) for number in left]
    ways = [flat.ways[number] for number in left]
    return Flat(states, rows, ways)


def leaned_row(row, least, left):
    return [(left.index(least[entry[BEHIND]]), entry[DEEDS]) for entry in row]
