"""A chart of rooms within rooms and of arrows between them, and where its rooms lie."""

from chartfold.errors import BadChart

MOST_ROOMS = 16
MOST_ARROWS = 20
LAST_EVENT = 3
LAST_DEED = 99

KINDS = ("plain", "one", "all", "keep")
# Of a kept room of these kinds just one room straight in it is kept.
CHOOSING = ("one", "keep")

# The holder of the first room, the guard of an arrow without one.
NONE = -1

# The places in a room's pair and in an arrow's tuple.
HOLDER = 0
KIND = 1
SOURCE = 0
EVENT = 1
GUARD = 2
TARGET = 3
DEED = 4


class Chart:
    def __init__(self, rooms, arrows):
        # Copies, so that the chart stays as told whatever becomes of the lists handed in.
        self.rooms = list(rooms)
        self.arrows = list(arrows)
        # The rooms go first: an arrow's scope can only be looked for among sound rooms.
        check_rooms(self)
        check_arrows(self)


def check_rooms(chart):
    if not 1 <= len(chart.rooms) <= MOST_ROOMS:
        raise BadChart(f"a chart has 1 to {MOST_ROOMS} rooms")
    for room in range(len(chart.rooms)):
        check_holder(chart, room)
        check_kind(chart, room)


def check_holder(chart, room):
    holder = chart.rooms[room][HOLDER]
    if room == 0:
        if holder != NONE:
            raise BadChart(f"the first room's holder is {NONE}")
        return
    if not 0 <= holder < room:
        raise BadChart(f"room {room} does not lie in a room ahead of it")


def check_kind(chart, room):
    kind = chart.rooms[room][KIND]
    if kind not in KINDS:
        raise BadChart(f"room {room} is of no kind that there is: {kind!r}")
    inner = children(chart, room)
    if kind == "plain" and len(inner) > 0:
        raise BadChart(f"room {room} is plain, but a room lies in it")
    if kind != "plain" and len(inner) == 0:
        raise BadChart(f"room {room} is not plain, but no room lies in it")


def check_arrows(chart):
    if len(chart.arrows) > MOST_ARROWS:
        raise BadChart(f"a chart has 0 to {MOST_ARROWS} arrows")
    for number in range(len(chart.arrows)):
        check_arrow(chart, number)


def check_arrow(chart, number):
    arrow = chart.arrows[number]
    last_room = len(chart.rooms) - 1
    check_part(number, "source", arrow[SOURCE], 0, last_room)
    check_part(number, "event", arrow[EVENT], 0, LAST_EVENT)
    check_part(number, "guard", arrow[GUARD], NONE, last_room)
    check_part(number, "target", arrow[TARGET], 0, last_room)
    check_part(number, "deed", arrow[DEED], 0, LAST_DEED)
    if scope(chart, arrow[SOURCE], arrow[TARGET]) is None:
        raise BadChart(f"arrow {number} has no scope")


def check_part(number, name, part, least, most):
    # The part itself is not shown: Python writes no number of thousands of digits, and fails in another way.
    if not least <= part <= most:
        raise BadChart(f"the {name} of arrow {number} is not one of {least} to {most}")


def children(chart, room):
    return [inner for inner in range(len(chart.rooms)) if chart.rooms[inner][HOLDER] == room]


def within(chart, room, other):
    # A holder has a lesser number than the rooms in it: below the other's number the way out can't meet it.
    place = room
    while place > other:
        place = chart.rooms[place][HOLDER]
    return place == other


def lies_in(chart, room, other):
    return room != other and within(chart, room, other)


def scope(chart, source, target):
    place = chart.rooms[source][HOLDER]
    while place != NONE:
        if chart.rooms[place][KIND] in CHOOSING and lies_in(chart, target, place):
            return place
        place = chart.rooms[place][HOLDER]
    return None
