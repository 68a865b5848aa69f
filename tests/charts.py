"""Charts that several tests look at."""

from chartfold.rooms import Chart

# 0 one
#   1 plain
#   2 all
#     3 one:  5, 6 plain
#     4 keep: 7 plain, 8 one: 9, 10 plain
HOUSE = [
    (-1, "one"), (0, "plain"), (0, "all"), (2, "one"), (2, "keep"), (3, "plain"),
    (3, "plain"), (4, "plain"), (4, "one"), (8, "plain"), (8, "plain"),
]

# 0 one
#   1 plain
#   2 keep
#     3 plain
#     4 keep: 5, 6 plain
NESTED = [(-1, "one"), (0, "plain"), (0, "keep"), (2, "plain"), (2, "keep"), (4, "plain"), (4, "plain")]

# 0 one: 1, 2 plain
PAIR = [(-1, "one"), (0, "plain"), (0, "plain")]

# 0 all
#   1 one: 4, 5 plain
#   2 one: 6, 7 plain
#   3 one: 8, 9 plain
THREE = [
    (-1, "all"), (0, "one"), (0, "one"), (0, "one"), (1, "plain"), (1, "plain"),
    (2, "plain"), (2, "plain"), (3, "plain"), (3, "plain"),
]


def house(arrows):
    return Chart(HOUSE, arrows)


def nested(arrows):
    return Chart(NESTED, arrows)


def pair(arrows):
    return Chart(PAIR, arrows)


def three(arrows):
    return Chart(THREE, arrows)


def memory_of(count, told):
    """A memory for so many rooms that is -1 but where it is told."""
    return tuple(told.get(room, -1) for room in range(count))
