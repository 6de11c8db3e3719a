"""The fewest ranks with which a machine can do, and the nests of loops that force so many."""

from looprank.loops import bits_of, has_room, is_good, loop_parts, rooms_of, round_in, seen_from, top_rank
from looprank.machines import Machine
from looprank.reach import rooms_reached


def without_top(machine, loop):
    rank = top_rank(machine, loop)
    return bits_of([room for room in rooms_of(loop) if machine.ranks[room] != rank])


def inner_loops(machine, loop):
    # Told are the greatest loops of the other sort within a loop. None of them has a room of the loop's greatest
    # rank, so each lies in a part of what is left without these rooms. No two of them have a room in common, as
    # both together would be a greater loop of their sort.
    found = []
    left = [loop]
    while left != []:
        rest = without_top(machine, left.pop())
        for part in loop_parts(machine, rest):
            if is_good(machine, part) == is_good(machine, loop):
                left.append(part)
            else:
                found.append(part)
    return found


def outer_loops(machine):
    return loop_parts(machine, seen_from(machine, 0))


def least_rank(base, good):
    return base if (base % 2 == 0) == good else base + 1


def ranks_within(machine, loop, base):
    # A loop must rank above each loop of the other sort in it. Rooms outside these lie on loops of its sort alone.
    ranks = {}
    rank = least_rank(base, is_good(machine, loop))
    for inner in inner_loops(machine, loop):
        below = ranks_within(machine, inner, base)
        rank = max(rank, max(below.values()) + 1)
        ranks.update(below)
    for room in rooms_of(loop):
        ranks.setdefault(room, rank)
    return ranks


def ranks_from(machine, base):
    ranks = {}
    for loop in outer_loops(machine):
        ranks.update(ranks_within(machine, loop, base))
    return [ranks.get(room, base) for room in range(machine.many)]


def longest_row(machine, loop, good):
    # The row ends with the loop itself. Going on with the greatest inner loops alone loses nothing, as each loop of
    # a row can be put for a greater one of its sort.
    longest = [loop] if is_good(machine, loop) == good else []
    for inner in inner_loops(machine, loop):
        row = longest_row(machine, inner, good)
        if len(row) >= len(longest):
            longest = row + [loop]
    return longest


def nest_of(machine, row):
    entries = [entry for entry in rooms_reached(machine) if has_room(row[0], entry[0])]
    room = entries[0][0]
    front = entries[0][1]
    return (front, [round_in(machine, loop, room) for loop in row])


def longest_nest(machine, good):
    longest = []
    for loop in outer_loops(machine):
        row = longest_row(machine, loop, good)
        if len(row) > len(longest):
            longest = row
    return nest_of(machine, longest) if longest != [] else None


def nests(machine):
    return (longest_nest(machine, True), longest_nest(machine, False))


def nest_length(nest):
    return 0 if nest is None else len(nest[1])


def lowest_ranks(machine):
    told = nests(machine)
    good = nest_length(told[0])
    bad = nest_length(told[1])
    if bad > good:
        return (ranks_from(machine, 1), [told[1]])
    if good > bad:
        return (ranks_from(machine, 0), [told[0]])
    return (ranks_from(machine, 0), [told[0], told[1]])


def lowered(machine):
    return Machine(machine.steps, lowest_ranks(machine)[0])
