"""Writing a chart as a text, and reading it back."""

from chartfold.errors import BadChart
from chartfold.rooms import HOLDER, KIND, LAST_DEED, NONE, Chart

# How the number that stands for none is written.
DASH = "-"
FIGURES = "0123456789"

ROOM_WORDS = 3
ARROW_WORDS = 6


def shown(chart):
    lines = [room_line(room) for room in chart.rooms] + [arrow_line(arrow) for arrow in chart.arrows]
    return "\n".join(lines)


def room_line(room):
    return " ".join(["room", number_word(room[HOLDER]), room[KIND]])


def arrow_line(arrow):
    return " ".join(["arrow"] + [number_word(part) for part in arrow])


def number_word(number):
    if number == NONE:
        return DASH
    return str(number)


def read(text):
    rooms = []
    arrows = []
    for line in text.split("\n"):
        words = line.split(" ")
        if words[0] == "room" and len(words) == ROOM_WORDS:
            rooms.append((read_number(words[1]), words[2]))
        elif words[0] == "arrow" and len(words) == ARROW_WORDS:
            arrows.append(tuple([read_number(word) for word in words[1:]]))
        else:
            raise BadChart("a line is neither a room's nor an arrow's")
    chart = Chart(rooms, arrows)
    # What is left to refuse are lines out of their order and numbers with a nought ahead.
    if shown(chart) != text:
        raise BadChart("a text is not as its chart is written")
    return chart


def read_number(word):
    if word == DASH:
        return NONE
    # No number of a chart is longer than the last deed, and Python reads none of thousands of figures.
    if not 1 <= len(word) <= len(str(LAST_DEED)):
        raise BadChart("a number has no figure or too many")
    if not all([sign in FIGURES for sign in word]):
        raise BadChart("a number is not in figures")
    return int(word)
