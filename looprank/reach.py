"""Which rooms can be come to, by which shortest words, and machines trimmed to them."""

from looprank.machines import Machine
from looprank.words import LETTERS


def ways_from(steps, start, allowed):
    # The dict keeps the order in which rooms are met: shorter words first, those of one length by alphabet.
    ways = {start: ""}
    met = [start]
    place = 0
    while place < len(met):
        here = met[place]
        for letter, room in zip(LETTERS, steps[here]):
            if room in allowed and room not in ways:
                ways[room] = ways[here] + letter
                met.append(room)
        place = place + 1
    return ways


def rooms_reached(machine):
    ways = ways_from(machine.steps, 0, list(range(machine.many)))
    return list(ways.items())


def trimmed(machine):
    rooms = [room for room, front in rooms_reached(machine)]
    steps = [[rooms.index(place) for place in machine.steps[room]] for room in rooms]
    return Machine(steps, [machine.ranks[room] for room in rooms])
