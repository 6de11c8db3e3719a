"""Two machines that read the same word side by side: wanted words, and papers that there are none."""

from looprank.errors import NoPaper, OtherLetters
from looprank.loops import bits_of, joined, parts_among, rooms_of, seen_among
from looprank.reach import ways_from
from looprank.words import LETTERS, place_in_order

ONE_ALONE = (False, True, False, False)
JUST_ONE = (False, True, True, False)


def check_letters(one, other):
    if one.letters != other.letters:
        raise OtherLetters("the two machines have not as many letters")


def paired_steps(one, other):
    steps = {}
    for left in range(one.many):
        for right in range(other.many):
            steps[(left, right)] = list(zip(one.steps[left], other.steps[right]))
    return steps


class Sides:
    # All but the pairs themselves goes by their places, so that a set of pairs is told by bits as one of rooms is.
    def __init__(self, one, other, left, right):
        check_letters(one, other)
        one.check_room(left)
        other.check_room(right)
        steps = paired_steps(one, other)
        fronts = ways_from(steps, (left, right), list(steps))
        self.pairs = sorted(fronts)
        self.fronts = [fronts[pair] for pair in self.pairs]
        self.steps = [[self.pairs.index(goal) for goal in steps[pair]] for pair in self.pairs]
        self.lefts = [one.ranks[pair[0]] for pair in self.pairs]
        self.rights = [other.ranks[pair[1]] for pair in self.pairs]


def pair_rooms(one, other, left=0, right=0):
    return Sides(one, other, left, right).pairs


def is_wanted(wanted, p, q):
    return wanted[p % 2 * 2 + q % 2]


def wanted_ranks(sides, wanted):
    found = []
    for p in sorted(set(sides.lefts)):
        found.extend([(p, q) for q in sorted(set(sides.rights)) if is_wanted(wanted, p, q)])
    return found


def kept_places(sides, p, q):
    ranks = list(zip(sides.lefts, sides.rights))
    return bits_of([place for place, pair in enumerate(ranks) if pair[0] <= p and pair[1] <= q])


def greatest_ranks(sides, part):
    places = rooms_of(part)
    return (max([sides.lefts[place] for place in places]), max([sides.rights[place] for place in places]))


def wanted_parts(sides, wanted):
    found = []
    for p, q in wanted_ranks(sides, wanted):
        parts = parts_among(sides.steps, kept_places(sides, p, q))
        found.extend([part for part in parts if greatest_ranks(sides, part) == (p, q)])
    return found


def first_round(sides, wanted, start):
    # Shorter words are met first, those of one length by alphabet. Of the words that lead to one place with the same
    # greatest ranks on the way, only the first one met can begin the first round.
    words = {(start, -1, -1): ""}
    met = list(words)
    turn = 0
    while turn < len(met):
        here = met[turn]
        for letter, goal in zip(LETTERS, sides.steps[here[0]]):
            there = (goal, max(here[1], sides.lefts[goal]), max(here[2], sides.rights[goal]))
            if goal == start and is_wanted(wanted, there[1], there[2]):
                return words[here] + letter
            if there not in words:
                words[there] = words[here] + letter
                met.append(there)
        turn = turn + 1
    return None


def wanted_word(one, other, wanted, left=0, right=0):
    # No round from a place off the wanted parts is wanted; of each other place its own first telling is enough.
    sides = Sides(one, other, left, right)
    places = rooms_of(joined(wanted_parts(sides, wanted)))
    words = [(sides.fronts[place], first_round(sides, wanted, place)) for place in places]
    return min(words, key=place_in_order, default=None)


def numbers_for(sides, p, q):
    # Whoever goes on sees no more pairs than before, and as many only where the way back is open. The bits of fewer
    # pairs are the lesser number, so the places of the bits in their order do as well.
    seen = seen_among(sides.steps, kept_places(sides, p, q))
    rising = sorted(set(list(seen.values())))
    return [rising.index(seen[place]) if place in seen else None for place in range(len(sides.pairs))]


def ladders(one, other, wanted, left=0, right=0):
    sides = Sides(one, other, left, right)
    if wanted_parts(sides, wanted) != []:
        raise NoPaper("some endless word has a wanted outcome")
    return [(p, q, numbers_for(sides, p, q)) for p, q in wanted_ranks(sides, wanted)]


def parting_word(one, other, left=0, right=0):
    return wanted_word(one, other, JUST_ONE, left, right)


def is_alike(one, other, left=0, right=0):
    return wanted_parts(Sides(one, other, left, right), JUST_ONE) == []


def is_within(one, other, left=0, right=0):
    return wanted_parts(Sides(one, other, left, right), ONE_ALONE) == []
