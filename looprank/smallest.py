"""The smallest form of a settled machine: a room for each class of rooms from which the same words are let by."""

from looprank.errors import NotSettled
from looprank.kinds import Settled, ranks_by
from looprank.loops import all_rooms, joined, loop_parts, rooms_of, round_in
from looprank.machines import Machine
from looprank.pairs import is_alike, parting_word
from looprank.reach import rooms_reached


def settled_twin(machine):
    # Rooms are asked about in pairs by their ranks, so the two ranks of the marked machine make it quick.
    kind = Settled()
    bar = kind.bar(machine)
    if bar is not None:
        raise NotSettled(bar[0], bar[1], bar[3])
    return kind.marked(machine)


def class_among(machine, heads, room):
    for number, head in enumerate(heads):
        if is_alike(machine, machine, head, room):
            return number
    return len(heads)


def classes_met(machine):
    # The first room that is met of a class has the first word that leads to the class, so classes are met in the
    # order of their numbers.
    heads = []
    classes = {}
    for room, front in rooms_reached(machine):
        classes[room] = class_among(machine, heads, room)
        if classes[room] == len(heads):
            heads.append(room)
    return classes


def heads_of(classes):
    heads = {}
    for room, number in classes.items():
        heads.setdefault(number, room)
    return list(heads.values())


def good_parts(machine, heads, form):
    found = []
    for part in loop_parts(form, all_rooms(form)):
        room = rooms_of(part)[0]
        if machine.lets(("", round_in(form, part, room)), heads[room]):
            found.append(part)
    return found


def smallest_form(machine):
    twin = settled_twin(machine)
    classes = classes_met(twin)
    heads = heads_of(classes)
    steps = [[classes[room] for room in twin.steps[head]] for head in heads]
    form = Machine(steps, [1] * len(heads))
    return Machine(steps, ranks_by(form, joined(good_parts(twin, heads, form)), 0, 1))


def room_classes(machine):
    classes = classes_met(settled_twin(machine))
    return [classes.get(room) for room in range(machine.many)]


def parted_rooms(machine):
    form = smallest_form(machine)
    found = []
    for p in range(form.many):
        for q in range(p + 1, form.many):
            found.append((p, q, parting_word(form, form, p, q)))
    return found
