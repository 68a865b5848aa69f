"""Points 1 and 15 to 20 over many charts and machines: each answer beside one that is worked out the long way."""

import itertools
import random
import unittest

from charts import deeds_from, drawn_chart
from chartfold.errors import ChartError, Clash, TooMany
from chartfold.folding import Flat, flat_run, folded
from chartfold.keeping import run
from chartfold.leaning import alike, leaned, parted
from chartfold.notes import read, shown
from chartfold.rooms import Chart

CHARTS = 250
MACHINES = 80


def busy_chart(source):
    """A chart of rounds side by side and some arrows more, so that it has many states."""
    count = source.randint(2, 4)
    rooms = [(-1, "one"), (0, "all"), (0, "plain")] + [(1, source.choice(("one", "keep"))) for number in range(count)]
    rooms += [(3 + number % count, "plain") for number in range(source.randint(2 * count, 13 - count))]
    leaves = list(range(3 + count, len(rooms)))
    arrows = {}
    for first in leaves:
        onward = first + count if first + count < len(rooms) else rooms[first][0] + count
        arrows[first, rooms[first][0] % 4] = (first, rooms[first][0] % 4, -1, onward, source.choice((0, 0, 0, 1)))
    for attempt in range(source.randint(0, 9)):
        first, event, guard = source.choice([1, 2] + leaves), source.randint(0, 3), source.choice([-1] + leaves)
        target = source.choice([room for room in (1, 2) if room != first])
        arrows.setdefault((first, event), (first, event, guard, target, 0))
    return Chart(rooms, list(arrows.values())[:20])


def charts():
    for seed in range(CHARTS):
        yield seed, drawn_chart(random.Random(seed))
        yield -seed, busy_chart(random.Random(seed))


def told_refusal(call):
    """The answer of a call, or what a refusal tells."""
    try:
        return call()
    except Clash as refusal:
        return ("clash", refusal.events, refusal.first, refusal.second)
    except TooMany:
        return ("too many",)


def fields(flat):
    return (flat.states, flat.rows, flat.ways)


def long_fold(chart):
    """The fields of a chart's flat machine: each row of events that goes on from a way is run from the beginning."""
    ways, behind = {run(chart, [])[0]: ()}, {}
    level = [()]
    while level:
        ahead, level = level, []
        for way, event in itertools.product(ahead, range(4)):
            state, deeds = run(chart, list(way) + [event])
            if state not in ways:
                if len(ways) == 30:
                    raise TooMany("")
                ways[state] = way + (event,)
                level.append(ways[state])
            behind.setdefault(way, []).append((list(ways).index(state), deeds[-1]))
    return (list(ways), [behind[way] for way in ways.values()], list(ways.values()))


def drawn_machine(source):
    count = source.randint(1, 5)
    deeds = [()] * source.randint(1, 8) + [(1,), (1, 2)]
    rows = [[(source.randrange(count), source.choice(deeds)) for event in range(4)] for number in range(count)]
    # A twin leads where its sign does, so that some states are alike.
    twin = source.randrange(count)
    rows.insert(source.randrange(count), list(rows[twin]))
    return Flat(list(range(count + 1)), rows, [(number,) * number for number in range(count + 1)])


def long_parted(flat, one, other):
    """The first row that parts two states, of all rows by their length: it is shorter than there are states."""
    for length in range(1, len(flat.rows)):
        for events in itertools.product(range(4), repeat=length):
            if deeds_from(flat, one, events) != deeds_from(flat, other, events):
                return events
    return None


class Folding(unittest.TestCase):
    def test_each_chart(self):
        met = {}
        for seed, chart in charts():
            with self.subTest(seed=seed):
                answer = told_refusal(lambda: fields(folded(chart)))
                self.assertEqual(answer, told_refusal(lambda: long_fold(chart)))
                kind = answer[0] if isinstance(answer[0], str) else "folded"
                met[kind] = met.get(kind, 0) + 1
        for kind in ("clash", "too many", "folded"):
            self.assertGreater(met[kind], 3)

    def test_machine_does_the_same(self):
        for seed, chart in charts():
            source = random.Random(seed)
            events = [source.randint(0, 3) for number in range(40)]
            try:
                flat = folded(chart)
            except ChartError:
                continue
            with self.subTest(seed=seed):
                state, deeds = run(chart, events)
                number, told = flat_run(flat, events)
                self.assertEqual((flat.states[number], told), (state, deeds))
                self.assertEqual(flat_run(leaned(flat), events)[1], deeds)


class Leaning(unittest.TestCase):
    def assert_parted(self, flat):
        groups = alike(flat)
        for one in range(len(flat.rows)):
            twins = [other for other in range(len(flat.rows)) if parted(flat, one, other) is None]
            self.assertEqual(groups[one], min(twins))
        return groups

    def test_each_machine(self):
        for seed in range(MACHINES):
            flat = drawn_machine(random.Random(seed))
            with self.subTest(seed=seed):
                self.assert_parted(flat)
                for one, other in itertools.product(range(len(flat.rows)), repeat=2):
                    self.assertEqual(parted(flat, one, other), long_parted(flat, one, other))

    def test_leaned_machines(self):
        for seed in range(MACHINES):
            flat = drawn_machine(random.Random(seed))
            lean = leaned(flat)
            left = sorted(set(alike(flat)))
            with self.subTest(seed=seed):
                self.assertEqual(lean.states, left)
                self.assertEqual(lean.ways, [flat.ways[number] for number in left])
                self.assertEqual(alike(lean), list(range(len(left))))
                for number, events in itertools.product(range(len(flat.rows)), itertools.product(range(4), repeat=3)):
                    anew = left.index(alike(flat)[number])
                    self.assertEqual(deeds_from(lean, anew, events), deeds_from(flat, number, events))

    def test_folded_charts(self):
        for seed in range(0, CHARTS, 5):
            try:
                flat = folded(busy_chart(random.Random(seed)))
            except ChartError:
                continue
            with self.subTest(seed=seed):
                self.assert_parted(flat)


class Writing(unittest.TestCase):
    def test_each_chart(self):
        for seed, chart in charts():
            again = read(shown(chart))
            self.assertEqual((again.rooms, again.arrows), (chart.rooms, chart.arrows))


if __name__ == "__main__":
    unittest.main()
