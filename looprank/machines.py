"""Machines: rooms with ranks, steps by letters, and walks along endless words."""

from looprank.errors import NoMachine, NoRoom, NoWord
from looprank.words import LETTERS, is_endless, is_word

MOST_ROOMS = 8
MOST_LETTERS = 3


def is_whole(thing):
    return isinstance(thing, int) and not isinstance(thing, bool)


def is_below(thing, limit):
    return is_whole(thing) and thing >= 0 and thing < limit


def is_filled_list(thing, most):
    return isinstance(thing, list) and len(thing) >= 1 and len(thing) <= most


def is_row(thing, letters, rooms):
    return len(thing) == letters and all([is_below(room, rooms) for room in thing])


def are_steps(thing):
    if not is_filled_list(thing, MOST_ROOMS):
        return False
    if not all([is_filled_list(row, MOST_LETTERS) for row in thing]):
        return False
    return all([is_row(row, len(thing[0]), len(thing)) for row in thing])


def are_ranks(thing, rooms):
    if not isinstance(thing, list) or len(thing) != rooms:
        return False
    return all([is_whole(rank) and rank >= 0 for rank in thing])


class Machine:
    def __init__(self, steps, ranks):
        if not are_steps(steps):
            raise NoMachine("steps are one to eight lists of one to three rooms, all as long")
        if not are_ranks(ranks, len(steps)):
            raise NoMachine("ranks are a list with a whole number from 0 on for each room")
        self.steps = [list(row) for row in steps]
        self.ranks = list(ranks)
        self.many = len(steps)
        self.letters = len(steps[0])

    def check_room(self, thing):
        if not is_below(thing, self.many):
            raise NoRoom("this is no room of the machine")

    def check_word(self, thing):
        if not is_word(thing, self.letters):
            raise NoWord("this is no word of the machine's letters")

    def rooms_along(self, room, text):
        rooms = [room]
        for letter in text:
            room = self.steps[room][LETTERS.find(letter)]
            rooms.append(room)
        return rooms

    def goes(self, room, letter):
        self.check_room(room)
        self.check_word(letter)
        if len(letter) != 1:
            raise NoWord("a letter is one sign")
        return self.steps[room][LETTERS.find(letter)]

    def after(self, room, text):
        self.check_room(room)
        self.check_word(text)
        return self.rooms_along(room, text)[-1]

    def walk(self, word, room=0):
        self.check_room(room)
        if not is_endless(word, self.letters):
            raise NoWord("this is no endless word of the machine's letters")
        rooms = self.rooms_along(room, word[0])
        begun = {}
        # The last room of the list is the one ahead of the next round, so it is not yet read from.
        while rooms[-1] not in begun:
            begun[rooms[-1]] = len(rooms) - 1
            rooms.extend(self.rooms_along(rooms[-1], word[1])[1:])
        ahead = begun[rooms[-1]]
        return (rooms[:ahead], rooms[ahead:-1])

    def lets(self, word, room=0):
        ring = self.walk(word, room)[1]
        return max([self.ranks[place] for place in ring]) % 2 == 0

    def opposite(self):
        return Machine(self.steps, [rank + 1 for rank in self.ranks])
