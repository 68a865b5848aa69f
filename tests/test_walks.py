"""Points 4 and 9 to 14 over many charts: each step beside one that is worked out room by room."""

import random
import unittest

from charts import drawn_chart, drawn_rooms, outer_rooms, told_scope
from chartfold.errors import Clash
from chartfold.keeping import run, started, stepped, takeable
from chartfold.rooms import Chart, scope

CHARTS = 400
STEPS = 25


def told_takeable(rooms, arrows, kept, event):
    ready = {
        number: source for number, (source, on, guard, target, deed) in enumerate(arrows)
        if on == event and source in kept and guard in (-1,) + kept
    }
    inner = {outer for source in ready.values() for outer in outer_rooms(rooms, source)}
    return [number for number in ready if ready[number] not in inner]


def told_clash(rooms, scopes):
    """The first pair of arrows of which one's scope is the other's or lies in it."""
    pairs = []
    for first, outer in scopes.items():
        for second, other in scopes.items():
            if first != second and outer in [other] + outer_rooms(rooms, other):
                pairs.append((min(first, second), max(first, second)))
    return min(pairs, default=None)


def told_choice(rooms, room, goal, kept, memory):
    """The room straight in a choosing room that is kept behind an event; the goal is None outside all scopes."""
    straight = [inner for inner in range(len(rooms)) if rooms[inner][0] == room]
    if goal is None:
        return next(inner for inner in straight if inner in kept)
    for inner in straight:
        if inner == goal or inner in outer_rooms(rooms, goal):
            return inner
    return memory[room] if rooms[room][1] == "keep" else straight[0]


def told_step(rooms, arrows, state, event):
    """The state behind an event and its deeds, or the clash: what is kept is asked of each room by rising numbers."""
    kept, memory = state
    taken = told_takeable(rooms, arrows, kept, event)
    scopes = {number: told_scope(rooms, arrows[number][0], arrows[number][3]) for number in taken}
    if told_clash(rooms, scopes) is not None:
        return told_clash(rooms, scopes)
    behind, choices, memory_behind = {0}, {}, list(memory)
    for room in range(len(rooms)):
        goals = [arrows[number][3] for number in taken if scopes[number] in [room] + outer_rooms(rooms, room)]
        if room in behind and rooms[room][1] in ("one", "keep"):
            choices[room] = told_choice(rooms, room, goals[0] if goals else None, kept, memory)
        for inner in range(len(rooms)):
            if room in behind and rooms[inner][0] == room and choices.get(room, inner) == inner:
                behind.add(inner)
        if room in choices and rooms[room][1] == "keep":
            memory_behind[room] = choices[room]
    deeds = tuple(arrows[number][4] for number in taken)
    return ((tuple(sorted(behind)), tuple(memory_behind)), deeds)


class Walks(unittest.TestCase):
    def assert_sound(self, rooms, state):
        kept, memory = state
        self.assertEqual(list(kept), sorted(set(kept)))
        self.assertIn(0, kept)
        for room, (holder, kind) in enumerate(rooms):
            straight = [inner for inner in range(len(rooms)) if rooms[inner][0] == room]
            inside = [inner for inner in straight if inner in kept]
            wanted = 0 if room not in kept else len(straight) if kind == "all" else 1 if straight else 0
            self.assertEqual(len(inside), wanted)
            self.assertEqual(memory[room] in straight, kind == "keep")
            if kind == "keep" and inside:
                self.assertEqual(memory[room], inside[0])
            if kind != "keep":
                self.assertEqual(memory[room], -1)

    def assert_step(self, chart, state, event):
        """The answer of a step, or None where it is refused, as told."""
        told = told_step(chart.rooms, chart.arrows, state, event)
        self.assertEqual(takeable(chart, state[0], event), told_takeable(chart.rooms, chart.arrows, state[0], event))
        try:
            answer = stepped(chart, state, event)
        except Clash as refusal:
            self.assertEqual(((event,), told), (refusal.events, (refusal.first, refusal.second)))
            return None
        self.assertEqual(answer, told)
        self.assert_sound(chart.rooms, answer[0])
        return answer

    def walk(self, chart, source):
        state, events, deeds = started(chart), [], []
        self.assert_sound(chart.rooms, state)
        for number in range(STEPS):
            event = source.randint(0, 3)
            answer = self.assert_step(chart, state, event)
            if answer is None:
                with self.assertRaises(Clash) as caught:
                    run(chart, events + [event, event])
                self.assertEqual(caught.exception.events, tuple(events) + (event,))
            else:
                state = answer[0]
                events.append(event)
                deeds.append(answer[1])
        self.assertEqual(run(chart, events), (state, deeds))

    def test_walks(self):
        for seed in range(CHARTS):
            source = random.Random(seed)
            with self.subTest(seed=seed):
                self.walk(drawn_chart(source), source)

    def test_scopes(self):
        for seed in range(CHARTS):
            rooms = drawn_rooms(random.Random(seed))
            chart = Chart(rooms, [])
            for first in range(len(rooms)):
                for second in range(len(rooms)):
                    self.assertEqual(scope(chart, first, second), told_scope(rooms, first, second))


if __name__ == "__main__":
    unittest.main()
