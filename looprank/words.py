"""Words, and endless words that are told as a tuple (beginning, round)."""

from looprank.errors import NoWord

LETTERS = "abc"


def is_word(thing, many):
    # What is left of a text without its outer letters is empty only where all its signs are letters.
    return isinstance(thing, str) and thing.strip(LETTERS[:many]) == ""


def is_endless(thing, many):
    if not isinstance(thing, tuple) or len(thing) != 2:
        return False
    return is_word(thing[0], many) and is_word(thing[1], many) and thing[1] != ""


def letter_at(word, place):
    beginning = word[0]
    cycle = word[1]
    if place < len(beginning):
        return beginning[place]
    return cycle[(place - len(beginning)) % len(cycle)]


def first_unlike(one, other):
    # Behind both beginnings two rounds that agree for as long as both are together agree for ever.
    enough = max(len(one[0]), len(other[0])) + len(one[1]) + len(other[1])
    for place in range(enough):
        if letter_at(one, place) != letter_at(other, place):
            return place
    return None


def told_once(cycle):
    # A word stands within itself told twice, behind its first letter, first where its shortest part comes again.
    return cycle[:(cycle + cycle).find(cycle, 1)]


def letters_swallowed(beginning, cycle):
    count = 0
    while count < len(beginning) and beginning[-1 - count] == cycle[-1 - count % len(cycle)]:
        count = count + 1
    return count


def shortest_telling(word):
    beginning = word[0]
    cycle = told_once(word[1])
    kept = len(beginning) - letters_swallowed(beginning, cycle)
    return (beginning[:kept], (beginning[kept:] + cycle)[:len(cycle)])


def is_same(one, other):
    return shortest_telling(one) == shortest_telling(other)


def put_ahead(front, word):
    return shortest_telling((front + word[0], word[1]))


def left_behind(word, count):
    beginning = word[0]
    cycle = word[1]
    if count <= len(beginning):
        return shortest_telling((beginning[count:], cycle))
    turn = (count - len(beginning)) % len(cycle)
    return shortest_telling(("", cycle[turn:] + cycle[:turn]))


def place_in_order(word):
    return (len(word[0]) + len(word[1]), len(word[0]), word[0], word[1])


def comes_ahead(one, other):
    return place_in_order(one) < place_in_order(other)


def read_endless(text, many):
    if not isinstance(text, str) or not text.endswith(")"):
        raise NoWord("an endless word is a text that ends with its round in brackets")
    pieces = text.partition("(")
    word = (pieces[0], pieces[2][:-1])
    if not is_endless(word, many):
        raise NoWord("an endless word is a beginning and a round in brackets, of letters alone")
    return word


def show_endless(word):
    beginning = word[0]
    cycle = word[1]
    return f"{beginning}({cycle})"
