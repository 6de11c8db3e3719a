"""Learning a settled machine: by asking about endless words, and by showing guesses."""

from looprank.errors import NoEnd
from looprank.kinds import ranks_by
from looprank.loops import all_rooms, has_room, joined, loop_parts, rooms_of, way_in
from looprank.machines import Machine
from looprank.reach import rooms_reached, trimmed
from looprank.words import LETTERS, is_endless, put_ahead

MOST_KEPT = 6
MOST_TOLD = 40
MOST_TIMES = 6
MOST_TURNS = 3


def shortest_round(machine, part, room):
    rounds = []
    for letter, goal in zip(LETTERS, machine.steps[room]):
        if has_room(part, goal):
            rounds.append(letter + way_in(machine, part, goal, room))
    return min(rounds, key=len)


def words_by_turns(one, way, other, back):
    # The two rounds have unlike answers, though both lead back to one room of the guess. A settled machine that goes
    # round them by turns, each often enough, comes to another part at each turn, and it has only so many of them.
    found = []
    for times in range(1, MOST_TIMES + 1):
        text = ""
        for turn in range(MOST_TURNS):
            text = text + one * times
            found.append((text, (way, other)))
            text = text + way + other * times + back
            found.append((text, ("", one)))
    return found


def part_with(machine, room):
    return [part for part in loop_parts(machine, all_rooms(machine)) if has_room(part, room)][0]


def trials(guess, word):
    # Each is a room, a text that is gone along from it in the guess, and an endless word behind the text.
    walked = guess.walk(word)
    text = (word[0] + word[1] * guess.many)[:len(walked[0])]
    one = word[1] * (len(walked[1]) // len(word[1]))
    start = walked[1][0]
    part = part_with(guess, start)
    # The part got its rank by the answer for this round.
    goal = rooms_of(part)[0]
    other = shortest_round(guess, part, goal)
    way = way_in(guess, part, start, goal)
    back = way_in(guess, part, goal, start)
    found = [(0, text, ("", one)), (start, way, ("", other))]
    found.extend([(start, longer, rest) for longer, rest in words_by_turns(one, way, other, back)])
    return found


class Learner:
    # Kept are words that lead to rooms known to be unlike, one for each room of a guess, and the columns, endless words
    # that part them.
    def __init__(self, many, asked):
        self.signs = LETTERS[:many]
        self.source = asked
        self.answers = {}
        self.kept = [""]
        self.columns = []

    def answer(self, front, word):
        short = put_ahead(front, word)
        if short not in self.answers:
            source = self.source
            self.answers[short] = source(short)
        return self.answers[short]

    def row_of(self, front):
        return [self.answer(front, column) for column in self.columns]

    def keep_unlike(self):
        rows = [self.row_of(front) for front in self.kept]
        turn = 0
        while turn < len(self.kept):
            for sign in self.signs:
                front = self.kept[turn] + sign
                if self.row_of(front) not in rows:
                    if len(rows) == MOST_KEPT:
                        raise NoEnd("a guess would have more than six rooms")
                    rows.append(self.row_of(front))
                    self.kept.append(front)
            turn = turn + 1

    def form(self):
        rows = [self.row_of(front) for front in self.kept]
        steps = [[rows.index(self.row_of(front + sign)) for sign in self.signs] for front in self.kept]
        return Machine(steps, [1] * len(steps))

    def is_let_by(self, form, part):
        room = rooms_of(part)[0]
        return self.answer(self.kept[room], ("", shortest_round(form, part, room)))

    def guess(self):
        self.keep_unlike()
        form = self.form()
        # Rooms get other numbers by trimming, and the kept words go along with them.
        self.kept = [self.kept[room] for room, front in rooms_reached(form)]
        form = trimmed(form)
        good = [part for part in loop_parts(form, all_rooms(form)) if self.is_let_by(form, part)]
        return Machine(form.steps, ranks_by(form, joined(good), 0, 1))

    def check_wrong(self, guess, thing):
        if not is_endless(thing, guess.letters) or max(len(thing[0]), len(thing[1])) > MOST_TOLD:
            raise NoEnd("of a guess None is told, or an endless word of at most forty letters in each of its two words")
        if guess.lets(thing) == self.answer("", thing):
            raise NoEnd("the guess is right on the word that was told of it")

    def column_found(self, guess, room, text, word):
        rooms = guess.rooms_along(room, text)

        def answer_at(place):
            return self.answer(self.kept[rooms[place]], (text[place:] + word[0], word[1]))

        low = 0
        high = len(text)
        first = answer_at(low)
        if answer_at(high) == first:
            return None
        while high - low > 1:
            middle = (low + high) // 2
            if answer_at(middle) == first:
                low = middle
            else:
                high = middle
        return put_ahead(text[high:], word)

    def learn_from(self, guess, thing):
        # What leads to the room ahead of the turn, and its letter, has not the answer of the room that it leads to in
        # the guess; so with the new column one word more is kept.
        self.check_wrong(guess, thing)
        for room, text, rest in trials(guess, thing):
            column = self.column_found(guess, room, text, rest)
            if column is not None:
                self.columns.append(column)
                return
        raise NoEnd("no guess with more rooms comes of the word that was told")


def learn(many, asked, shown):
    learner = Learner(many, asked)
    guesses = 0
    while True:
        guess = learner.guess()
        guesses = guesses + 1
        told = shown(guess)
        if told is None:
            return (guess, guesses, list(learner.answers.items()))
        learner.learn_from(guess, told)
