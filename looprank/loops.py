"""Sets of rooms as bits, and the loops that lie in them."""

from looprank.errors import NoLoop
from looprank.reach import ways_from
from looprank.words import LETTERS


def bits_of(rooms):
    bits = 0
    for room in rooms:
        bits = bits | 1 << room
    return bits


def has_room(bits, room):
    return bits >> room & 1 == 1


def rooms_of(bits):
    return [room for room in range(bits.bit_length()) if has_room(bits, room)]


def all_rooms(machine):
    return bits_of(list(range(machine.many)))


def joined(sets):
    bits = 0
    for rooms in sets:
        bits = bits | rooms
    return bits


def seen_among(steps, allowed):
    # Once a room has been the middle one, each way is counted whose rooms between have all been middle ones.
    rooms = rooms_of(allowed)
    seen = {}
    for room in rooms:
        seen[room] = (bits_of(steps[room]) | 1 << room) & allowed
    for middle in rooms:
        for room in rooms:
            if has_room(seen[room], middle):
                seen[room] = seen[room] | seen[middle]
    return seen


def seen_from(machine, room):
    return seen_among(machine.steps, all_rooms(machine))[room]


def reaching(machine, goals):
    seen = seen_among(machine.steps, all_rooms(machine))
    return bits_of([room for room in range(machine.many) if seen[room] & goals != 0])


def goes_round(steps, part):
    # Two rooms that can be come to from one another lie on a loop; a single one needs a letter back to itself.
    rooms = rooms_of(part)
    return len(rooms) > 1 or rooms[0] in steps[rooms[0]]


def parts_among(steps, allowed):
    seen = seen_among(steps, allowed)
    parts = []
    for room in rooms_of(allowed):
        part = bits_of([other for other in rooms_of(seen[room]) if has_room(seen[other], room)])
        if part not in parts and goes_round(steps, part):
            parts.append(part)
    return parts


def loop_parts(machine, allowed):
    return parts_among(machine.steps, allowed)


def is_loop(machine, bits):
    return loop_parts(machine, bits) == [bits]


def top_rank(machine, bits):
    if bits == 0:
        raise NoLoop("a set without rooms has no greatest rank")
    return max([machine.ranks[room] for room in rooms_of(bits)])


def is_good(machine, bits):
    return top_rank(machine, bits) % 2 == 0


def way_in(machine, allowed, room, goal):
    if not has_room(allowed, room):
        return None
    return ways_from(machine.steps, room, rooms_of(allowed)).get(goal)


def round_in(machine, bits, room):
    if not is_loop(machine, bits):
        raise NoLoop("this set of rooms is no loop")
    if not has_room(bits, room):
        raise NoLoop("the room is not in the loop")
    if rooms_of(bits) == [room]:
        return LETTERS[machine.steps[room].index(room)]
    text = ""
    here = room
    for goal in rooms_of(bits):
        if goal not in machine.rooms_along(room, text):
            text = text + way_in(machine, bits, here, goal)
            here = goal
    return text + way_in(machine, bits, here, room)


def ranks_of_sort(machine, allowed, wanted):
    ranks = sorted(set([machine.ranks[room] for room in rooms_of(allowed)]))
    return [rank for rank in ranks if (rank % 2 == 0) == wanted]


def parts_topped(machine, allowed, rank):
    # A part of the rooms up to a rank is the greatest loop round each loop in it whose greatest rank this is.
    low = bits_of([room for room in rooms_of(allowed) if machine.ranks[room] <= rank])
    return [part for part in loop_parts(machine, low) if top_rank(machine, part) == rank]


def loops_of_sort(machine, allowed, wanted):
    # Each loop of the sort lies within one of these, the one that has its greatest rank.
    found = []
    for rank in ranks_of_sort(machine, allowed, wanted):
        found.extend(parts_topped(machine, allowed, rank))
    return found


def loop_found(machine, allowed, wanted):
    loops = loops_of_sort(machine, allowed, wanted)
    return loops[0] if loops != [] else None


def never_coming_to(machine, wanted):
    # A word from a room is of a sort just where it ends in a loop of the sort, so only rooms ahead of one have such.
    everywhere = all_rooms(machine)
    goals = joined(loops_of_sort(machine, everywhere, wanted))
    return everywhere ^ reaching(machine, goals)


def dead_rooms(machine):
    return never_coming_to(machine, True)


def sure_rooms(machine):
    return never_coming_to(machine, False)
