"""Machines written as texts, and read from them."""

from looprank.errors import NoText
from looprank.machines import Machine

FIGURES = "0123456789"
MOST_FIGURES = 30


def show_room(rank, row):
    rooms = " ".join([str(room) for room in row])
    return f"{rank}: {rooms}"


def show_machine(machine):
    return "; ".join([show_room(rank, row) for rank, row in zip(machine.ranks, machine.steps)])


def is_number_text(text):
    # Only the ten figures themselves count: Python would read figures of other scripts, signs and blanks as well.
    if text == "" or len(text) > MOST_FIGURES or text.strip(FIGURES) != "":
        return False
    return text == "0" or not text.startswith("0")


def read_number(text):
    if not is_number_text(text):
        raise NoText("a number is one to thirty figures, without a nought ahead")
    return int(text)


def read_room(piece):
    parts = piece.partition(": ")
    if parts[1] == "":
        raise NoText("a room is its rank, a colon and a blank, and the rooms to which its letters lead")
    return (read_number(parts[0]), [read_number(part) for part in parts[2].split(" ")])


def read_machine(text):
    if not isinstance(text, str):
        raise NoText("a machine is read from a text")
    # All numbers are read ahead of making the machine, as a fault in the text is refused first.
    rooms = [read_room(piece) for piece in text.split("; ")]
    return Machine([room[1] for room in rooms], [room[0] for room in rooms])
