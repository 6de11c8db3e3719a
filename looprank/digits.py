"""Endless words as the digits of numbers from 0 to 1, and the machines of all fractions up to or from a told one."""

from looprank.errors import NoFraction, NoWord
from looprank.machines import Machine, is_below, is_whole
from looprank.reach import ways_from
from looprank.words import LETTERS, is_endless

BASES = (2, 3)
MOST_BOTTOM = 6
# No top is so great, so among the tops it can stand for the room out.
OUT = 7


def check_base(thing):
    if not is_whole(thing) or thing not in BASES:
        raise NoFraction("a base is 2 or 3")


def check_fraction(top, bottom, base):
    check_base(base)
    if not is_below(bottom, MOST_BOTTOM + 1) or bottom == 0:
        raise NoFraction("a bottom is a whole number from 1 to 6")
    if not is_below(top, bottom + 1):
        raise NoFraction("a top is a whole number from 0 to the bottom")


def number_written(text, base):
    number = 0
    for letter in text:
        number = number * base + LETTERS.find(letter)
    return number


def power_of(base, count):
    power = 1
    for turn in range(count):
        power = power * base
    return power


def greatest_divisor(one, other):
    while other != 0:
        rest = one % other
        one = other
        other = rest
    return one


def value_of(word, base):
    check_base(base)
    if not is_endless(word, base):
        raise NoWord("this is no endless word of the base's letters")
    # A round of n digits for ever is worth the number it writes divided by one less than the n-th power of the base.
    nines = power_of(base, len(word[1])) - 1
    top = number_written(word[0], base) * nines + number_written(word[1], base)
    bottom = power_of(base, len(word[0])) * nines
    divisor = greatest_divisor(top, bottom)
    return (top // divisor, bottom // divisor)


def writing_of(top, bottom, base, least):
    # Each digit leaves a fraction from 0 to below 1 where least is 0, and one above 0 and up to 1 where it is 1. So the
    # two ways part only where a digit may leave nothing. Unlike fractions have unlike writings, so no telling is
    # shorter than the one that ends where a fraction is left again.
    text = ""
    places = {}
    while top not in places:
        places[top] = len(text)
        digit = (base * top - least) // bottom
        text = text + LETTERS[digit]
        top = base * top - digit * bottom
    return (text[:places[top]], text[places[top]:])


def writings_of(top, bottom, base):
    check_fraction(top, bottom, base)
    found = []
    if top < bottom:
        found.append(writing_of(top, bottom, base, 0))
    if top > 0:
        lesser = writing_of(top, bottom, base, 1)
        if lesser not in found:
            found.append(lesser)
    return found


def room_up_to(rest, bottom):
    if rest < 0:
        return OUT
    return min(rest, bottom)


def room_from_on(rest, bottom):
    if rest > bottom:
        return OUT
    return max(rest, 0)


def machine_of(top, bottom, base, room_for):
    # A room is told by its top over the one bottom. The room of all words and the room out lead back to themselves.
    check_fraction(top, bottom, base)
    steps = {OUT: [OUT] * base}
    for here in range(bottom + 1):
        steps[here] = [room_for(base * here - digit * bottom, bottom) for digit in range(base)]
    rooms = list(ways_from(steps, top, list(steps)))
    ranks = [1 if here == OUT else 0 for here in rooms]
    return Machine([[rooms.index(goal) for goal in steps[here]] for here in rooms], ranks)


def up_to(top, bottom, base):
    return machine_of(top, bottom, base, room_up_to)


def from_on(top, bottom, base):
    return machine_of(top, bottom, base, room_from_on)
