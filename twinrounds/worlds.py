"""Worlds: a few things, marks on some of them, and ties from one to another."""

from twinrounds.errors import NoThing, NoWord, TooGreat

LETTERS = "abcdefghijklmnopqrstuvwxyz"
KEPT_TEXTS = ("not", "and", "or", "some", "all")
MOST_LETTERS = 8
MOST_THINGS = 5
MOST_WORDS = 3


def is_word(text):
    if text in KEPT_TEXTS or len(text) == 0 or len(text) > MOST_LETTERS:
        return False
    return all([letter in LETTERS for letter in text])


def refuse_above(number, most):
    if number > most:
        raise TooGreat(number, most)


def refuse_no_thing(size, thing):
    if thing < 0 or thing >= size:
        raise NoThing(thing)


# A dict of True in the place of a list: what stands twice is there once,
# and nothing is kept of the list that was handed in.
def kept_things(size, things):
    kept = {}
    for thing in things:
        refuse_no_thing(size, thing)
        kept[thing] = True
    return kept


def kept_pairs(size, pairs):
    kept = {}
    for one, other in pairs:
        refuse_no_thing(size, one)
        refuse_no_thing(size, other)
        kept[(one, other)] = True
    return kept


class World:
    def __init__(self, size, marks, ties):
        refuse_above(size, MOST_THINGS)
        refuse_above(len(marks), MOST_WORDS)
        refuse_above(len(ties), MOST_WORDS)
        self.size = size
        self.marked = {}
        self.tied = {}
        for word, things in marks.items():
            if not is_word(word):
                raise NoWord(word)
            self.marked[word] = kept_things(size, things)
        for word, pairs in ties.items():
            if not is_word(word) or word in self.marked:
                raise NoWord(word)
            self.tied[word] = kept_pairs(size, pairs)

    def has(self, word, thing):
        if word not in self.marked:
            raise NoWord(word)
        refuse_no_thing(self.size, thing)
        return thing in self.marked[word]

    def leads(self, word, one, other):
        if word not in self.tied:
            raise NoWord(word)
        refuse_no_thing(self.size, one)
        refuse_no_thing(self.size, other)
        return (one, other) in self.tied[word]

    def mark_words(self):
        return sorted(self.marked)

    def tie_words(self):
        return sorted(self.tied)
