"""What several test files need: things of all kinds, small words and machines, and slow, plain answers."""

from itertools import product
from random import Random

from looprank.machines import Machine


def odd_things():
    """Things of many kinds, none of which is a word, an endless word, a room or a machine's part."""
    return [
        None, True, False, -1, 0.0, 1.5, 10 ** 30, b"", b"a", [], ["a"], ["", "a"], [0], (), ("a",), (0,),
        {}, {"a": "b"}, {0: 1}, set(), {"a"}, frozenset("a"), object(), len, int, str, Ellipsis, range(2),
    ]


def words_up_to(letters, longest):
    """All words of these letters, the empty one first, with at most so many letters."""
    return ["".join(signs) for size in range(longest + 1) for signs in product(letters, repeat=size)]


def tellings_up_to(many, longest_beginning, longest_round):
    letters = "abc"[:many]
    beginnings = words_up_to(letters, longest_beginning)
    return [(beginning, cycle) for beginning in beginnings for cycle in words_up_to(letters, longest_round)[1:]]


def written_out(word, count):
    """The first so many letters of an endless word, by writing them down."""
    text = word[0]
    while len(text) < count:
        text += word[1]
    return text[:count]


def small_machines():
    """All machines of one and two rooms and one and two letters, with ranks of 0 to 2."""
    found = []
    for rooms, letters in ((1, 1), (1, 2), (1, 3), (2, 1), (2, 2)):
        rows = [list(row) for row in product(range(rooms), repeat=letters)]
        for steps in product(rows, repeat=rooms):
            for ranks in product(range(3), repeat=rooms):
                found.append(Machine([list(row) for row in steps], list(ranks)))
    return found


def mixed_machines(count):
    """Machines of three to eight rooms and one to three letters, by a fixed row of numbers."""
    state = 12345
    found = []

    def drawn(limit):
        nonlocal state
        state = (state * 1103515245 + 12345) % 2 ** 31
        return (state >> 16) % limit

    for number in range(count):
        rooms = 3 + number % 6
        letters = 1 + number % 3
        steps = [[drawn(rooms) for letter in range(letters)] for room in range(rooms)]
        found.append(Machine(steps, [drawn(6) for room in range(rooms)]))
    return found


def rooms_read(machine, word, room, count):
    """The rooms ahead of the first so many letters, one step after another."""
    rooms = []
    for letter in written_out(word, count):
        rooms.append(room)
        room = machine.steps[room]["abc".index(letter)]
    return rooms


def rooms_again_and_again(machine, word, room):
    """The rooms of a stretch of whole rounds that lies behind everything that comes only for a while."""
    late = len(word[0]) + machine.many * len(word[1])
    return rooms_read(machine, word, room, late + machine.many * len(word[1]))[late:]


def drawn_machines(seed, count, least_rooms=1, most_rooms=8):
    """Machines of all these sizes by turns, with one, two and three letters, their steps and ranks drawn by a seed."""
    draw = Random(seed)
    found = []
    for number in range(count):
        rooms = least_rooms + number % (most_rooms - least_rooms + 1)
        letters = draw.choice((1, 2, 2, 3, 3))
        steps = [[draw.randrange(rooms) for letter in range(letters)] for room in range(rooms)]
        top = draw.choice((1, 2, 4, rooms + 1))
        found.append(Machine(steps, [draw.randrange(top) + draw.choice((0, 0, 0, 2)) for room in range(rooms)]))
    return found


def nested_machine(ranks, letters=3):
    """a goes one room on, b goes back to room 0, c stays: the first rooms, as many as you like, are a loop."""
    rooms = len(ranks)
    return Machine([[(room + 1) % rooms, 0, room][:letters] for room in range(rooms)], ranks)


def split_machine():
    """Eight rooms: 0 is on no loop, 1 and 2 are a loop, 3 goes round by itself, 4 is on no loop; 5 to 7 cannot be
    come to, 5 is on no loop, 6 and 7 are a loop."""
    steps = [[1, 4], [2, 2], [1, 1], [3, 3], [3, 1], [6, 0], [7, 3], [6, 6]]
    return Machine(steps, [5, 1, 2, 3, 9, 4, 8, 7])


def set_of(bits):
    """The rooms of bits as a set, by dividing by two."""
    found = set()
    room = 0
    while bits:
        if bits % 2 == 1:
            found.add(room)
        bits //= 2
        room += 1
    return found


def bits_by_sum(rooms):
    return sum([2 ** room for room in set(rooms)])


def rooms_come_to(machine, room, word):
    """The rooms to which the letters of a word lead, one after another."""
    rooms = []
    for letter in word:
        room = machine.steps[room]["abc".index(letter)]
        rooms.append(room)
    return rooms


def is_round_of(machine, room, word, bits):
    """Whether the word leads from the room back to it and its rooms are just these (6)."""
    rooms = rooms_come_to(machine, room, word)
    return rooms != [] and rooms[-1] == room and set(rooms) == set_of(bits)


def loops_in(steps):
    """The bits of all loops, by walking along all words until no new pair of a room and of rooms come to is met."""
    found = set()
    for start in range(len(steps)):
        met = {(start, 0)}
        left = [(start, 0)]
        while left:
            room, come_to = left.pop()
            for place in steps[room]:
                pair = (place, come_to | 1 << place)
                if pair not in met:
                    met.add(pair)
                    left.append(pair)
        found.update([come_to for room, come_to in met if room == start and come_to])
    return sorted(found)


def loops_by_search(machine):
    return loops_in(machine.steps)


def seen_by_search(machine, start):
    """The set of the rooms to which words lead from a room, the empty word among them."""
    seen = {start}
    while True:
        more = seen | {place for room in seen for place in machine.steps[room]}
        if more == seen:
            return seen
        seen = more


def top_by_search(machine, bits):
    return max([machine.ranks[room] for room in set_of(bits)])


def good_by_search(machine, bits):
    return top_by_search(machine, bits) % 2 == 0


def reached_loops(machine):
    """The bits of the loops that can be come to from room 0."""
    reached = bits_by_sum(seen_by_search(machine, 0))
    return [bits for bits in loops_by_search(machine) if bits & ~reached == 0]


def keeps_the_loops(machine, loops, ranks):
    """Whether each of these loops is good by these ranks just where it is by the machine's own."""
    for loop in loops:
        if (max([ranks[room] for room in set_of(loop)]) % 2 == 0) != good_by_search(machine, loop):
            return False
    return True


def is_settled_by_search(machine):
    loops = reached_loops(machine)
    return not [1 for loop in loops for other in loops
                if loop & other == loop and good_by_search(machine, loop) != good_by_search(machine, other)]


def layered_machines(seed, count, least_rooms=1, most_rooms=8):
    """Machines whose letters lead mostly a little onward, so that they have several parts, most of these with ranks
    that are all even or all odd: many of the machines are settled."""
    draw = Random(seed)
    found = []
    for number in range(count):
        rooms = least_rooms + number % (most_rooms - least_rooms + 1)
        letters = draw.choice((1, 2, 2, 3, 3))
        back = draw.choice((3, 12, 12, 24))
        steps = [[draw.randrange(rooms) if draw.randrange(back) == 0 else min(room + draw.randrange(3), rooms - 1)
                  for letter in range(letters)] for room in range(rooms)]
        ranks = [draw.randrange(6) for room in range(rooms)]
        if draw.randrange(4):
            for loop in loops_in(steps):
                sort = draw.randrange(2)
                for room in set_of(loop):
                    ranks[room] = 2 * draw.randrange(3) + sort
        found.append(Machine(steps, ranks))
    return found


def settled_machines(seed, count, least_rooms=1, most_rooms=8):
    """Settled machines, found by a search through all loops, of all these sizes."""
    found = [machine for machine in layered_machines(seed, 4 * count, least_rooms, most_rooms)
             if is_settled_by_search(machine)]
    return found[:count]


def pairs_by_search(one, other, left=0, right=0):
    """The pairs to which words lead, rising."""
    seen = {(left, right)}
    while True:
        more = seen | {pair for here in seen for pair in zip(one.steps[here[0]], other.steps[here[1]])}
        if more == seen:
            return sorted(seen)
        seen = more


def shuffled(machine, draw):
    """The same machine with its rooms numbered otherwise, but for room 0."""
    order = [0] + draw.sample(range(1, machine.many), machine.many - 1)
    steps = [[order.index(goal) for goal in machine.steps[room]] for room in order]
    return Machine(steps, [machine.ranks[room] for room in order])


def unfolded(machine, draw):
    """Each room of a machine of at most four rooms twice; each letter leads to one of the two copies of its room."""
    steps = [[goal + machine.many * draw.randrange(2) for goal in row] for row in machine.steps * 2]
    return Machine(steps, machine.ranks * 2)


def turning_machines(seed, count, least_rooms=1, most_rooms=6):
    """Settled machines whose parts are good and bad by turns, so that most of their rooms are unlike: letters stay or
    lead a little onward, now and then anywhere; each part (33) has one sort."""
    draw = Random(seed)
    found = []
    for number in range(count):
        rooms = least_rooms + number % (most_rooms - least_rooms + 1)
        letters = 1 + number // (most_rooms - least_rooms + 1) % 3
        stays = draw.choice((0, 1, 3))
        steps = [[draw.choice([room] * stays + [draw.randrange(rooms)]) if draw.randrange(3) == 0
                  else min(room + draw.randrange(3), rooms - 1) for letter in range(letters)] for room in range(rooms)]
        ranks = [draw.randrange(4) for room in range(rooms)]
        loops = loops_in(steps)
        greatest = [loop for loop in loops if not [other for other in loops if loop != other and loop & other == loop]]
        for place, loop in enumerate(sorted(greatest, key=lambda bits: min(set_of(bits)))):
            for room in set_of(loop):
                ranks[room] = 2 * draw.randrange(2) + (place + seed) % 2
        found.append(Machine(steps, ranks))
    return found


def lets_by_search(machine, word):
    return max([machine.ranks[room] for room in rooms_again_and_again(machine, word, 0)]) % 2 == 0


def pairs_with_fronts(one, other, start):
    """The pairs to which words of one letter at least lead from a pair, each with a shortest such word."""
    fronts = {}
    left = [(start, "")]
    for here, text in left:
        for letter, goal in zip("abc", zip(one.steps[here[0]], other.steps[here[1]])):
            if goal not in fronts:
                fronts[goal] = text + letter
                left.append((goal, text + letter))
    return fronts


def wrong_words(one, other):
    """An endless word for each pair of rooms of two settled machines that goes round so that just one lets it by; as
    all rounds of a room of a settled machine are let by alike, there is none only where the machines are alike."""
    found = []
    for pair, front in {**pairs_with_fronts(one, other, (0, 0)), (0, 0): ""}.items():
        rounds = pairs_with_fronts(one, other, pair)
        if pair in rounds:
            word = (front, rounds[pair])
            if lets_by_search(one, word) != lets_by_search(other, word):
                found.append(word)
    return found


def stretched(word, draw, most=40):
    """The same endless word with some rounds more ahead and its round told several times, up to so many letters."""
    front, cycle = word
    for turn in range(draw.choice((0, 0, 1, 2, 40))):
        if len(front) + len(cycle) <= most:
            front += cycle
    return front, cycle * draw.randint(1, max(1, draw.choice((1, most)) // len(cycle)))
