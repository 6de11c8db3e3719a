"""Joints: two machines that let a word by together, by a truth of both answers."""

from looprank.machines import Machine
from looprank.pairs import check_letters, wanted_word


class Joint:
    def __init__(self, one, other):
        check_letters(one, other)
        # Whatever is kept of what is handed in is kept as a copy.
        self.inner = Machine(one.steps, one.ranks)
        self.outer = Machine(other.steps, other.ranks)

    def leads(self):
        return (self.truth(True, True), self.truth(True, False), self.truth(False, True), self.truth(False, False))

    def lets(self, word):
        return self.truth(self.inner.lets(word), self.outer.lets(word))

    def some_word(self):
        return wanted_word(self.inner, self.outer, self.leads())


class Both(Joint):
    def truth(self, left, right):
        return left and right


class Either(Joint):
    def truth(self, left, right):
        return left or right


class Less(Joint):
    def truth(self, left, right):
        return left and not right


class Unlike(Joint):
    def truth(self, left, right):
        return left != right


class Nor(Joint):
    def truth(self, left, right):
        return not left and not right
