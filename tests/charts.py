"""Charts and flat machines that several tests look at."""

from chartfold.rooms import Chart

# 0 one
#   1 plain
#   2 all
#     3 one:  5, 6 plain
#     4 keep: 7 plain, 8 one: 9, 10 plain
HOUSE = [
    (-1, "one"), (0, "plain"), (0, "all"), (2, "one"), (2, "keep"), (3, "plain"),
    (3, "plain"), (4, "plain"), (4, "one"), (8, "plain"), (8, "plain"),
]

# 0 one
#   1 plain
#   2 keep
#     3 plain
#     4 keep: 5, 6 plain
NESTED = [(-1, "one"), (0, "plain"), (0, "keep"), (2, "plain"), (2, "keep"), (4, "plain"), (4, "plain")]

# 0 one: 1, 2 plain
PAIR = [(-1, "one"), (0, "plain"), (0, "plain")]

# 0 all
#   1 one: 4, 5 plain
#   2 one: 6, 7 plain
#   3 one: 8, 9 plain
THREE = [
    (-1, "all"), (0, "one"), (0, "one"), (0, "one"), (1, "plain"), (1, "plain"),
    (2, "plain"), (2, "plain"), (3, "plain"), (3, "plain"),
]


def house(arrows):
    return Chart(HOUSE, arrows)


def nested(arrows):
    return Chart(NESTED, arrows)


def pair(arrows):
    return Chart(PAIR, arrows)


def three(arrows):
    return Chart(THREE, arrows)


def memory_of(count, told):
    """A memory for so many rooms that is -1 but where it is told."""
    return tuple(told.get(room, -1) for room in range(count))


def deeds_from(flat, number, events):
    """The deeds of each of some events, walked from a state of a flat machine."""
    deeds = []
    for event in events:
        number, done = flat.rows[number][event]
        deeds.append(done)
    return deeds


def outer_rooms(rooms, room):
    """The rooms in which a room lies, from the innermost."""
    outer = []
    while rooms[room][0] != -1:
        room = rooms[room][0]
        outer.append(room)
    return outer


def drawn_rooms(source):
    count = source.randint(3, 16)
    holders = [-1] + [source.randint(max(0, room - 5), room - 1) for room in range(1, count)]
    return [
        (holder, source.choice(("one", "all", "keep")) if room in holders else "plain")
        for room, holder in enumerate(holders)
    ]


def told_scope(rooms, first, second):
    shared = set(outer_rooms(rooms, first)) & set(outer_rooms(rooms, second))
    return max((room for room in shared if rooms[room][1] in ("one", "keep")), default=None)


def drawn_arrows(source, rooms):
    arrows = []
    for attempt in range(source.randint(0, 20)):
        first, second = source.randrange(len(rooms)), source.randrange(len(rooms))
        if told_scope(rooms, first, second) is not None:
            guard = source.choice((-1, -1, -1, source.randrange(len(rooms))))
            arrows.append((first, source.randint(0, 3), guard, second, source.randint(0, 99)))
    return arrows


def drawn_chart(source):
    rooms = drawn_rooms(source)
    return Chart(rooms, drawn_arrows(source, rooms))
