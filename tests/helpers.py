"""What several of the tests need: worlds and sayings by dice, and the check of a refusal."""

import copy
import itertools
import unittest

from twinrounds.errors import NoThing, RoundError, Unlike
from twinrounds.worlds import World

HUGE = 10 ** 59 + 3


class Refusals(unittest.TestCase):
    def refused(self, error, fields, call, *handed):
        with self.assertRaises(error) as caught:
            call(*handed)
        self.assertIs(caught.exception.__class__, error)
        told = {name: getattr(caught.exception, name) for name in fields}
        self.assertEqual(told, fields)
        for name, value in fields.items():
            self.assertIs(told[name].__class__, value.__class__)

    def no_thing(self, thing, call, *handed):
        self.refused(NoThing, {"thing": thing}, call, *handed)


def some_world(dice, size, marks=("red", "wet"), ties=("near", "by"), share=0.4):
    things = range(size)
    marked = {word: [thing for thing in things if dice.random() < 0.5] for word in marks}
    tied = {word: [pair for pair in itertools.product(things, things) if dice.random() < share] for word in ties}
    return World(size, marked, tied)


def some_saying(dice, names, most_deep, most_within, marks=("red", "wet"), ties=("near", "by")):
    sorts = ["mark", "tie", "same"] if marks else ["tie", "same"]
    if most_within > 0:
        sorts += ["not", "both", "both", "either", "either"]
        if most_deep > 0:
            sorts += ["some", "some", "all", "all"] * 2
    sort = dice.choice(sorts)
    if sort == "mark":
        return sort, dice.choice(marks), dice.choice(names)
    if sort == "tie":
        return sort, dice.choice(ties), dice.choice(names), dice.choice(names)
    if sort == "same":
        return sort, dice.choice(names), dice.choice(names)
    if sort in ("some", "all"):
        return sort, dice.choice(names), some_saying(dice, names, most_deep - 1, most_within - 1, marks, ties)
    count = 1 if sort == "not" else 2
    return (sort,) + tuple(some_saying(dice, names, most_deep, most_within - 1, marks, ties) for turn in range(count))


def halves(sort, sayings):
    if len(sayings) == 1:
        return sayings[0]
    middle = len(sayings) // 2
    return sort, halves(sort, sayings[:middle]), halves(sort, sayings[middle:])


def wrapped(saying, layers):
    for layer in layers:
        saying = ("not", saying) if layer == "not" else (layer[0], layer[1], saying)
    return saying


def told_whole(world):
    """All that a world tells of itself, so that a change of it is seen."""
    things = range(world.size)
    marks = {word: [world.has(word, thing) for thing in things] for word in world.mark_words()}
    ties = {word: [world.leads(word, one, other) for one in things for other in things] for word in world.tie_words()}
    return world.size, marks, ties


def slow_fits(one, other, pairs):
    """Word by word what the document tells of pairs that fit."""
    for (first, second), (third, fourth) in itertools.product(pairs, pairs):
        if (first == third) != (second == fourth):
            return False
        if any(one.has(word, first) != other.has(word, second) for word in one.mark_words()):
            return False
        if any(one.leads(word, first, third) != other.leads(word, second, fourth) for word in one.tie_words()):
            return False
    return True


def slow_matchings(one, other, pairs):
    """Every matching that keeps the pairs."""
    if one.size != other.size:
        return []
    orders = [list(order) for order in itertools.permutations(range(other.size))]
    return [order for order in orders
            if all(order[first] == second for first, second in pairs) and slow_fits(one, other, list(enumerate(order)))]


def turned(world, order):
    """The world with order[thing] in the place of each thing."""
    things = range(world.size)
    marks = {word: [order[thing] for thing in things if world.has(word, thing)] for word in world.mark_words()}
    ties = {word: [(order[one], order[other]) for one in things for other in things if world.leads(word, one, other)]
            for word in world.tie_words()}
    return World(world.size, marks, ties)


def differing(world, word, place):
    """The world with one fact the other way: of a mark and a thing, or of a tie and a pair."""
    things = range(world.size)
    marks = {known: [thing for thing in things if world.has(known, thing) != ((known, thing) == (word, place))]
             for known in world.mark_words()}
    ties = {known: [pair for pair in itertools.product(things, things)
                    if world.leads(known, *pair) != ((known, pair) == (word, place))] for known in world.tie_words()}
    return World(world.size, marks, ties)


def some_pairs(dice, one, other, count):
    if one.size == 0 or other.size == 0:
        return []
    return [(dice.randrange(one.size), dice.randrange(other.size)) for turn in range(count)]


def kept_pairs(dice, order, count):
    """Pairs of a matching."""
    firsts = [dice.randrange(len(order)) for turn in range(count)] if order else []
    return [(first, order[first]) for first in firsts]


def small_worlds(most):
    """Every world of a mark and a tie with at most so many things."""
    for size in range(most + 1):
        pairs = list(itertools.product(range(size), range(size)))
        for on in itertools.product([False, True], repeat=size):
            for led in itertools.product([False, True], repeat=len(pairs)):
                yield World(size, {"m": [thing for thing in range(size) if on[thing]]},
                            {"t": [pair for at, pair in enumerate(pairs) if led[at]]})


def ordered(size):
    return World(size, {}, {"under": [(one, other) for one in range(size) for other in range(one + 1, size)]})


def block_worlds():
    """Each way of putting up to five things in blocks, with ties from all of a block to all of it."""
    for size in range(6):
        for home in itertools.combinations_with_replacement(range(size), size):
            sizes = [home.count(block) for block in range(size)]
            if sizes == sorted(sizes, reverse=True):
                yield World(size, {}, {"by": [(one, other) for one in range(size) for other in range(size)
                                              if home[one] == home[other]]})


def some_change(dice, world):
    """The world with one fact the other way, or the world itself where there are no facts."""
    things = range(world.size)
    places = list(itertools.product(world.mark_words(), things))
    places += list(itertools.product(world.tie_words(), itertools.product(things, things)))
    return differing(world, *dice.choice(places)) if places else world


def some_cases(dice, turns):
    """Two worlds of one speech and pairs: the second is the first with its things in another order, the
    same with one fact changed, or one of its own size; the pairs go by that order or are any."""
    for turn in range(turns):
        marks = ("red", "wet", "big")[:dice.randrange(4)]
        ties = ("near", "by", "under")[:dice.randrange(4)]
        share = dice.choice([0, 0.1, 0.4, 1])
        one = some_world(dice, dice.randrange(6), marks, ties, share)
        order = dice.sample(range(one.size), one.size)
        other = turned(one, order)
        if turn % 4 == 1:
            other = some_change(dice, other)
        if turn % 4 > 1:
            other = some_world(dice, dice.randrange(6), marks, ties, share)
        if turn % 4 < 2 and turn % 3 > 0:
            yield one, other, kept_pairs(dice, order, dice.randrange(6))
        else:
            yield one, other, some_pairs(dice, one, other, dice.randrange(6))


def full_world(size, marked, tied):
    """A world of six words: the marks on every thing or on none, the ties from each thing to each or not at all."""
    things = range(size)
    return World(size, {word: list(things) if marked else [] for word in ("red", "wet", "big")},
                 {word: list(itertools.product(things, things)) if tied else [] for word in ("near", "by", "under")})


def places_of(pairs, side):
    """The first letters, as many as there are pairs, standing for the pairs' things of a side."""
    return {"abcdefghijklmnopqrstuvwxyz"[at]: pair[side] for at, pair in enumerate(pairs)}


def lying_within(saying):
    """How many parts of a saying lie one within another at most, itself among them."""
    return 1 + max([lying_within(part) for part in saying[1:] if isinstance(part, tuple)], default=0)


class PairCalls(Refusals):
    """What holds for each function of two worlds and pairs: a call is handed these three."""

    def changes_nothing(self, call):
        one = World(3, {"red": [0]}, {"near": [(0, 1)]})
        other = turned(one, [2, 0, 1])
        for pairs in ([], [(0, 2)], [(1, 0), (0, 2), (1, 0)], [(0, 0)], [(2, 1), (0, 1)],
                      [(9, 9), (0, 0)], [(0, HUGE)]):
            ahead = copy.deepcopy((pairs, told_whole(one), told_whole(other)))
            try:
                call(one, other, pairs)
            except RoundError:
                pass
            self.assertEqual((pairs, told_whole(one), told_whole(other)), ahead)

    def is_refused(self, call):
        self.refuses_unlike(call)
        self.refuses_unlike_first(call)
        self.refuses_no_thing(call)
        self.refuses_the_first_of_several(call)

    def refuses_unlike(self, call):
        world = World(2, {"red": [0], "wet": []}, {"near": [(0, 1)]})
        for marks, ties in (({"red": [0]}, {"near": [(0, 1)]}),
                            ({"red": [0], "wet": [], "big": []}, {"near": [(0, 1)]}),
                            ({"red": [0], "dry": []}, {"near": [(0, 1)]}),
                            ({"red": [0], "wet": []}, {}),
                            ({"red": [0], "wet": []}, {"near": [(0, 1)], "by": []}),
                            ({"red": [0], "wet": []}, {"by": [(0, 1)]}),
                            ({"red": [0], "near": []}, {"wet": [(0, 1)]}),
                            ({}, {"near": [(0, 1)]}), ({}, {})):
            unlike = World(2, marks, ties)
            for pairs in ([], [(0, 0)], [(0, 0), (1, 1)]):
                self.refused(Unlike, {}, call, world, unlike, pairs)
                self.refused(Unlike, {}, call, unlike, world, pairs)
        self.refused(Unlike, {}, call, World(0, {"a": []}, {}), World(0, {}, {"a": []}), [])

    def refuses_unlike_first(self, call):
        one, other = World(1, {"red": []}, {}), World(2, {}, {})
        for pairs in ([(1, 0)], [(0, 2)], [(-1, -1)], [(0, 0), (HUGE, 0)]):
            self.refused(Unlike, {}, call, one, other, pairs)

    def refuses_no_thing(self, call):
        for sizes in itertools.product(range(6), range(6)):
            one, other = [World(size, {"red": []}, {"near": []}) for size in sizes]
            for thing in (-1, -6, HUGE, -HUGE):
                self.no_thing(thing, call, one, other, [(thing, 0)])
                if one.size > 0:
                    self.no_thing(thing, call, one, other, [(0, thing)])
            self.no_thing(one.size, call, one, other, [(one.size, 0)])
            if one.size > 0:
                self.no_thing(other.size, call, one, other, [(one.size - 1, other.size)])

    def refuses_the_first_of_several(self, call):
        one, other = World(2, {}, {}), World(3, {}, {})
        self.no_thing(7, call, one, other, [(7, 8)])
        self.no_thing(8, call, one, other, [(1, 8), (7, 0)])
        self.no_thing(2, call, one, other, [(0, 2), (2, 2), (9, 9)])
        self.no_thing(3, call, one, other, [(0, 0), (1, 3), (2, 0)])
        self.no_thing(-1, call, one, other, [(0, 0), (0, 1), (1, 1), (1, 1), (1, -1)])
        # Also where the pairs ahead of it don't fit, or the sizes differ so that there is no matching.
        self.no_thing(HUGE, call, one, other, [(0, 0), (0, 1), (0, HUGE)])
