"""Running a chart as it stands: the rooms that are kept, and what events do to them."""

from chartfold.errors import Clash
from chartfold.rooms import CHOOSING, DEED, EVENT, GUARD, HOLDER, KIND, NONE, SOURCE, TARGET
from chartfold.rooms import children, lies_in, scope, within


def started(chart):
    memory = first_memory(chart)
    return (rising(entered(chart, 0, 0, memory)), memory)


def first_memory(chart):
    memory = []
    for room in range(len(chart.rooms)):
        if chart.rooms[room][KIND] == "keep":
            memory.append(children(chart, room)[0])
        else:
            memory.append(NONE)
    return tuple(memory)


def rising(rooms):
    return tuple(sorted(rooms))


def entered(chart, room, goal, memory):
    kept = [room]
    for inner in chosen(chart, room, goal, memory):
        kept.extend(entered(chart, inner, goal, memory))
    return kept


def chosen(chart, room, goal, memory):
    inner = children(chart, room)
    kind = chart.rooms[room][KIND]
    if kind not in CHOOSING:
        return inner
    towards = [place for place in inner if within(chart, goal, place)]
    if len(towards) > 0:
        return towards
    if kind == "keep":
        return [memory[room]]
    return [inner[0]]


def takeable(chart, kept, event):
    ready = open_arrows(chart, kept, event)
    return [number for number in ready if not overruled(chart, number, ready)]


def open_arrows(chart, kept, event):
    return [number for number in range(len(chart.arrows)) if is_open(chart.arrows[number], kept, event)]


def is_open(arrow, kept, event):
    if arrow[EVENT] != event or arrow[SOURCE] not in kept:
        return False
    return arrow[GUARD] == NONE or arrow[GUARD] in kept


def overruled(chart, number, ready):
    source = chart.arrows[number][SOURCE]
    for other in ready:
        if lies_in(chart, chart.arrows[other][SOURCE], source):
            return True
    return False


def clash_of(chart, numbers):
    for place, first in enumerate(numbers):
        for second in numbers[place + 1:]:
            if clashing(chart, first, second):
                return (first, second)
    return None


def clashing(chart, first, second):
    one = arrow_scope(chart, first)
    other = arrow_scope(chart, second)
    return within(chart, one, other) or within(chart, other, one)


def arrow_scope(chart, number):
    arrow = chart.arrows[number]
    return scope(chart, arrow[SOURCE], arrow[TARGET])


def stepped(chart, state, event):
    kept = state[0]
    memory = state[1]
    taken = takeable(chart, kept, event)
    pair = clash_of(chart, taken)
    if pair is not None:
        raise Clash((event,), pair[0], pair[1])
    # Scopes that don't clash share no room, so one arrow behind the other is the same as all at once.
    for number in taken:
        kept = moved(chart, kept, memory, number)
    deeds = tuple([chart.arrows[number][DEED] for number in taken])
    return ((kept, remembered(chart, kept, memory)), deeds)


def moved(chart, kept, memory, number):
    outer = arrow_scope(chart, number)
    staying = [room for room in kept if not within(chart, room, outer)]
    # The scope itself stays kept; to enter it towards the target enters the one room in it that leads there.
    return rising(staying + entered(chart, outer, chart.arrows[number][TARGET], memory))


def remembered(chart, kept, memory):
    behind = list(memory)
    for room in kept:
        holder = chart.rooms[room][HOLDER]
        if holder != NONE and chart.rooms[holder][KIND] == "keep":
            behind[holder] = room
    return tuple(behind)


def run(chart, events):
    state = started(chart)
    ahead = []
    deeds = []
    for event in events:
        step = step_behind(chart, ahead, state, event)
        ahead.append(event)
        state = step[0]
        deeds.append(step[1])
    return (state, deeds)


def step_behind(chart, ahead, state, event):
    try:
        return stepped(chart, state, event)
    except Clash as refusal:
        # A step knows its own event alone; here the events that led to the state are told too.
        raise Clash(tuple(ahead) + (event,), refusal.first, refusal.second) from None
