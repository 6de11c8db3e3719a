"""The five kinds of machines, what bars a machine from a kind, and machines marked by a kind."""

from looprank.errors import NoKind
from looprank.loops import (
    dead_rooms, has_room, joined, loops_of_sort, rooms_of, round_in, seen_from, sure_rooms, way_in,
)
from looprank.lowest import inner_loops, nest_of, ranks_from
from looprank.machines import Machine


def bar_behind(machine, good):
    # Each loop lies within one of those told of its sort, so where any two loops bar the machine two of these do.
    reached = seen_from(machine, 0)
    goals = loops_of_sort(machine, reached, good)
    for loop in loops_of_sort(machine, reached, not good):
        nest = nest_of(machine, [loop])
        start = machine.after(0, nest[0])
        for goal in goals:
            end = rooms_of(goal)[0]
            way = way_in(machine, reached, start, end)
            if way is not None:
                return (nest[0], nest[1][0], way, round_in(machine, goal, end))
    return None


def bar_within(machine, good):
    # Each loop lies within one of those told of its sort, which has in it whatever the loop has in it.
    for loop in loops_of_sort(machine, seen_from(machine, 0), good):
        inner = inner_loops(machine, loop)
        if inner != []:
            nest = nest_of(machine, [inner[0], loop])
            return (nest[0], nest[1][0], "", nest[1][1])
    return None


def ranks_by(machine, bits, inside, outside):
    return [inside if has_room(bits, room) else outside for room in range(machine.many)]


class Kind:
    def marked(self, machine):
        if self.bar(machine) is not None:
            raise NoKind("the machine is not of this kind")
        return Machine(machine.steps, self.ranks_for(machine))


class EarlyNo(Kind):
    def word(self):
        return "early no"

    def bar(self, machine):
        return bar_behind(machine, True)

    def ranks_for(self, machine):
        return ranks_by(machine, dead_rooms(machine), 1, 0)


class EarlyYes(Kind):
    def word(self):
        return "early yes"

    def bar(self, machine):
        return bar_behind(machine, False)

    def ranks_for(self, machine):
        return ranks_by(machine, sure_rooms(machine), 0, 1)


class Settled(Kind):
    def word(self):
        return "settled"

    def bar(self, machine):
        bar = bar_within(machine, False)
        return bar if bar is not None else bar_within(machine, True)

    def ranks_for(self, machine):
        good = joined(loops_of_sort(machine, seen_from(machine, 0), True))
        return ranks_by(machine, good, 0, 1)


class Again(Kind):
    def word(self):
        return "again"

    def bar(self, machine):
        return bar_within(machine, False)

    def ranks_for(self, machine):
        return ranks_from(machine, 1)


class Lasting(Kind):
    def word(self):
        return "lasting"

    def bar(self, machine):
        return bar_within(machine, True)

    def ranks_for(self, machine):
        return ranks_from(machine, 0)


def all_kinds():
    return [EarlyNo(), EarlyYes(), Settled(), Again(), Lasting()]


def kinds_of(machine):
    return [kind.word() for kind in all_kinds() if kind.bar(machine) is None]
