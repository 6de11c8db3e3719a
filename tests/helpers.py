"""What several test files need: things of all kinds, small words and machines, and slow, plain answers."""

from itertools import product

from looprank.machines import Machine


def odd_things():
    """Things of many kinds, none of which is a word, an endless word, a room or a machine's part."""
    return [
        None, True, False, -1, 0.0, 1.5, 10 ** 30, b"", b"a", [], ["a"], ["", "a"], [0], (), ("a",), (0,),
        {}, {"a": "b"}, {0: 1}, set(), {"a"}, frozenset("a"), object(), len, int, str, Ellipsis, range(2),
    ]


def words_up_to(letters, longest):
    """All words of these letters, the empty one first, with at most so many letters."""
    return ["".join(signs) for size in range(longest + 1) for signs in product(letters, repeat=size)]


def tellings_up_to(many, longest_beginning, longest_round):
    letters = "abc"[:many]
    beginnings = words_up_to(letters, longest_beginning)
    return [(beginning, cycle) for beginning in beginnings for cycle in words_up_to(letters, longest_round)[1:]]


def written_out(word, count):
    """The first so many letters of an endless word, by writing them down."""
    text = word[0]
    while len(text) < count:
        text += word[1]
    return text[:count]


def small_machines():
    """All machines of one and two rooms and one and two letters, with ranks of 0 to 2."""
    found = []
    for rooms, letters in ((1, 1), (1, 2), (1, 3), (2, 1), (2, 2)):
        rows = [list(row) for row in product(range(rooms), repeat=letters)]
        for steps in product(rows, repeat=rooms):
            for ranks in product(range(3), repeat=rooms):
                found.append(Machine([list(row) for row in steps], list(ranks)))
    return found


def mixed_machines(count):
    """Machines of three to eight rooms and one to three letters, by a fixed row of numbers."""
    state = 12345
    found = []

    def drawn(limit):
        nonlocal state
        state = (state * 1103515245 + 12345) % 2 ** 31
        return (state >> 16) % limit

    for number in range(count):
        rooms = 3 + number % 6
        letters = 1 + number % 3
        steps = [[drawn(rooms) for letter in range(letters)] for room in range(rooms)]
        found.append(Machine(steps, [drawn(6) for room in range(rooms)]))
    return found


def rooms_read(machine, word, room, count):
    """The rooms ahead of the first so many letters, one step after another."""
    rooms = []
    for letter in written_out(word, count):
        rooms.append(room)
        room = machine.steps[room]["abc".index(letter)]
    return rooms


def rooms_again_and_again(machine, word, room):
    """The rooms of a stretch of whole rounds that lies behind everything that comes only for a while."""
    late = len(word[0]) + machine.many * len(word[1])
    return rooms_read(machine, word, room, late + machine.many * len(word[1]))[late:]
