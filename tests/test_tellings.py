import copy
import itertools
import random
import time
import unittest

from tests.helpers import (PairCalls, block_worlds, differing, full_world, lying_within, ordered, places_of,
                           slow_matchings, small_worlds, some_cases, some_change, some_world, told_whole, turned)
from twinrounds.rounds import rank
from twinrounds.sayings import depth, free_names, is_so, parts
from twinrounds.tellings import portrait, telling
from twinrounds.texts import read, shown
from twinrounds.worlds import World

FAIR_SECONDS = 5


def within_seconds(call):
    start = time.perf_counter()
    told = call()
    return told, time.perf_counter() - start


class Checks(unittest.TestCase):
    def keeps_the_bounds(self, saying):
        self.assertIs(saying.__class__, tuple)
        self.assertLessEqual(parts(saying), 4000)
        self.assertLessEqual(lying_within(saying), 60)
        # What can be read behind being shown is a saying by its form, its words and its names.
        self.assertEqual(read(shown(saying)), saying)

    def tells_apart(self, one, other, pairs):
        told = telling(one, other, pairs)
        reached = rank(one, other, pairs)
        self.assertEqual(telling(one, other, pairs), told)
        if reached is None:
            self.assertIsNone(told)
            return None
        self.keeps_the_bounds(told)
        self.assertEqual(depth(told), reached)
        self.assertLessEqual(set(free_names(told)), set(places_of(pairs, 0)))
        self.assertIs(is_so(one, told, places_of(pairs, 0)), True)
        self.assertIs(is_so(other, told, places_of(pairs, 1)), False)
        return told


class Tellings(Checks):
    def test_worlds_without_words(self):
        for one, other in itertools.product(range(6), range(6)):
            told = self.tells_apart(World(one, {}, {}), World(other, {}, {}), [])
            self.assertEqual(told is None, one == other)

    def test_worlds_without_things(self):
        bare = full_world(0, False, False)
        self.assertIsNone(telling(bare, full_world(0, True, True), []))
        for size in range(1, 6):
            world = full_world(size, True, False)
            self.assertEqual(depth(self.tells_apart(world, bare, [])), 1)
            self.assertEqual(depth(self.tells_apart(bare, world, [])), 1)

    def test_a_fact_at_rank_nought(self):
        one = World(2, {"red": [0]}, {"near": [(0, 1)]})
        for pairs in ([(0, 1)], [(1, 0)], [(0, 0), (1, 0)], [(0, 0), (0, 1)], [(1, 1), (1, 1), (1, 0)]):
            told = self.tells_apart(one, one, pairs)
            fact = told[1] if told[0] == "not" else told
            self.assertIn(fact[0], ("mark", "tie", "same"))

    def test_a_fact_of_each_sort(self):
        bare = World(3, {"red": []}, {"near": []})
        pairs = [(0, 0), (1, 1), (2, 2)]
        for marks, ties in (({"red": [0]}, {"near": []}), ({"red": [2]}, {"near": []}),
                            ({"red": []}, {"near": [(0, 0)]}), ({"red": []}, {"near": [(2, 0)]}),
                            ({"red": []}, {"near": [(0, 2)]}), ({"red": []}, {"near": [(1, 2)]})):
            world = World(3, marks, ties)
            for chosen in itertools.permutations(pairs):
                self.assertEqual(depth(self.tells_apart(world, bare, list(chosen))), 0)
                self.assertEqual(depth(self.tells_apart(bare, world, list(chosen))), 0)
        for chosen in ([(0, 0), (0, 1)], [(0, 0), (1, 0)], [(0, 0), (1, 1), (2, 2), (0, 0), (1, 2)]):
            self.assertEqual(depth(self.tells_apart(bare, bare, chosen)), 0)

    def test_rank_one(self):
        one, other = World(2, {"red": [0]}, {}), World(2, {"red": []}, {})
        for pairs in ([], [(1, 0)], [(1, 1)], [(1, 0), (1, 0)]):
            self.assertEqual(depth(self.tells_apart(one, other, pairs)), 1)
            self.assertEqual(depth(self.tells_apart(other, one, [(second, first) for first, second in pairs])), 1)

    def test_five_pairs(self):
        one = World(5, {"red": [0]}, {"near": [(0, 1), (1, 2)]})
        pairs = [(thing, thing) for thing in range(5)]
        self.assertIsNone(self.tells_apart(one, one, pairs))
        for order in itertools.permutations(range(5)):
            self.tells_apart(one, one, list(enumerate(order)))
        for size in range(2, 5):
            self.assertEqual(depth(self.tells_apart(World(5, {}, {}), World(size, {}, {}), [(4, 1)] * 5)), size)
            self.assertEqual(depth(self.tells_apart(World(size, {}, {}), World(5, {}, {}), [(1, 4)] * 5)), size)

    def test_somewhat_more_than_five_pairs(self):
        for count in (6, 7, 12):
            self.tells_apart(World(4, {}, {}), World(5, {}, {}), [(0, 0)] * count)
            self.tells_apart(World(5, {}, {}), World(4, {}, {}), [(0, 0), (1, 1), (2, 2)] * (count // 3))
            self.tells_apart(World(5, {}, {}), World(4, {}, {}), [(0, 0)] * (count - 1) + [(1, 0)])

    def test_every_two_small_worlds(self):
        worlds = list(small_worlds(2))
        for one, other in itertools.product(worlds, worlds):
            for count in range(3):
                for pairs in itertools.combinations(itertools.product(range(one.size), range(other.size)), count):
                    self.tells_apart(one, other, list(pairs))

    def test_worlds_in_a_row(self):
        for one, other in itertools.product(range(6), range(6)):
            self.tells_apart(ordered(one), ordered(other), [])
        row = ordered(5)
        for pair in itertools.product(range(5), range(5)):
            self.tells_apart(row, row, [pair])

    def test_worlds_of_blocks(self):
        found = []
        for one, other in itertools.product(block_worlds(), block_worlds()):
            for pairs in ([], [(0, other.size - 1)] if one.size > 0 and other.size > 0 else []):
                told = self.tells_apart(one, other, pairs)
                found.append(told and depth(told))
        self.assertEqual(set(found), {None, 1, 2, 3, 4, 5})

    def test_by_dice(self):
        found = []
        for one, other, pairs in some_cases(random.Random(21), 1500):
            told = self.tells_apart(one, other, pairs)
            found.append(told and depth(told))
        for told in (None, 0, 1, 2, 3):
            self.assertGreater(found.count(told), 10, told)

    def test_worlds_that_differ_by_one_fact(self):
        dice = random.Random(22)
        for turn in range(80):
            one = some_world(dice, 1 + turn % 5, [], ["near"], [0, 0.1, 0.3][turn % 3])
            order = dice.sample(range(one.size), one.size)
            other = differing(turned(one, order), "near", (0, dice.randrange(one.size)))
            self.assertIsNotNone(self.tells_apart(one, other, []))
            self.assertIsNotNone(self.tells_apart(other, one, []))

    def test_the_greatest_worlds(self):
        for marked, tied in itertools.product([False, True], [False, True]):
            for sizes in itertools.product((3, 4, 5), (3, 4, 5)):
                one, other = [full_world(size, marked, tied) for size in sizes]
                for pairs in ([], [(0, 0)], [(0, 1), (1, 0)], [(2, 0)] * 5):
                    seconds = within_seconds(lambda: telling(one, other, pairs))[1]
                    self.assertLess(seconds, FAIR_SECONDS)
                    told = self.tells_apart(one, other, pairs)
                    self.assertEqual(told is None, one.size == other.size)

    def test_the_greatest_worlds_by_dice(self):
        dice = random.Random(23)
        for share in (0, 0.03, 0.5, 0.97, 1):
            for turn in range(8):
                one = some_world(dice, 5, ["red", "wet", "big"], ["near", "by", "under"], share)
                order = dice.sample(range(5), 5)
                for other in (turned(one, order), some_change(dice, turned(one, order))):
                    told, seconds = within_seconds(lambda: self.tells_apart(one, other, []))
                    self.assertLess(seconds, FAIR_SECONDS)
                    self.assertEqual(told is None, bool(slow_matchings(one, other, [])))


class Portraits(Checks):
    def is_of(self, world):
        told = portrait(world)
        self.keeps_the_bounds(told)
        self.assertEqual(free_names(told), [])
        self.assertLessEqual(depth(told), world.size + 1)
        self.assertEqual(portrait(world), told)
        self.assertIs(is_so(world, told), True)
        return told

    def shows(self, told, world, other):
        self.assertIs(is_so(other, told), bool(slow_matchings(world, other, [])))

    def test_every_two_small_worlds(self):
        worlds = list(small_worlds(2))
        for world in worlds:
            told = self.is_of(world)
            for other in worlds:
                self.shows(told, world, other)

    def test_some_worlds_of_three_things(self):
        worlds = list(small_worlds(3))
        for world in worlds[::211]:
            told = self.is_of(world)
            for other in worlds[::31]:
                self.shows(told, world, other)

    def test_sizes(self):
        for one, other in itertools.product(range(6), range(6)):
            told = self.is_of(World(one, {}, {}))
            self.assertIs(is_so(World(other, {}, {}), told), one == other)
            told = self.is_of(full_world(one, True, False))
            self.assertIs(is_so(full_world(other, True, False), told), one == other)

    def test_things_in_each_other_order(self):
        world = World(5, {"red": [0, 3]}, {"near": [(0, 1), (1, 2), (2, 0), (3, 3)]})
        told = self.is_of(world)
        for order in itertools.permutations(range(5)):
            self.assertIs(is_so(turned(world, order), told), True)

    def test_each_fact_changed(self):
        dice = random.Random(24)
        for size in range(1, 6):
            for turn in range(3):
                world = some_world(dice, size, ["red", "wet", "big"], ["near", "by", "under"])
                told = self.is_of(world)
                order = dice.sample(range(size), size)
                places = list(itertools.product(world.mark_words(), range(size)))
                places += list(itertools.product(world.tie_words(), itertools.product(range(size), range(size))))
                for word, place in places:
                    self.assertIs(is_so(turned(differing(world, word, place), order), told), False)

    def test_by_dice(self):
        found = []
        for one, other, pairs in some_cases(random.Random(25), 600):
            told = self.is_of(one)
            self.shows(told, one, other)
            found.append((bool(slow_matchings(one, other, [])), one.size == other.size))
        self.assertEqual(set(found), {(True, True), (False, True), (False, False)})

    def test_worlds_of_blocks(self):
        worlds = list(block_worlds())
        for world in worlds:
            told = self.is_of(world)
            for other in worlds:
                self.shows(told, world, other)

    def test_within_a_fair_time(self):
        dice = random.Random(26)
        for turn in range(10):
            world = some_world(dice, 5, ["red", "wet", "big"], ["near", "by", "under"])
            told, seconds = within_seconds(lambda: portrait(world))
            self.assertLess(seconds, FAIR_SECONDS)
            for other in (world, turned(world, [4, 3, 2, 1, 0]), full_world(5, True, True)):
                self.assertLess(within_seconds(lambda: is_so(other, told))[1], FAIR_SECONDS)

    def test_nothing_handed_in_is_changed(self):
        world = World(4, {"red": [1]}, {"near": [(0, 3)]})
        ahead = copy.deepcopy(told_whole(world))
        portrait(world)
        self.assertEqual(told_whole(world), ahead)


def made_anew(world, backward):
    """The world once more, its words and all that is told of them in the letters' order or in the other one."""
    step = -1 if backward else 1
    things = range(world.size)
    marks = {word: [thing for thing in things if world.has(word, thing)][::step]
             for word in world.mark_words()[::step]}
    ties = {word: [pair for pair in itertools.product(things, things) if world.leads(word, *pair)][::step]
            for word in world.tie_words()[::step]}
    return World(world.size, marks, ties)


class ToldAgain(unittest.TestCase):
    """The same is told whenever the same is asked of the same worlds."""

    def test_of_worlds_made_anew(self):
        dice = random.Random(27)
        for turn in range(60):
            one, other = [some_world(dice, 3 + turn % 3, share=0.2) for side in range(2)]
            pairs = [(0, 0)][:turn % 2]
            first = telling(one, other, pairs), portrait(one)
            for backward, across in itertools.product([False, True], [False, True]):
                again, beside = made_anew(one, backward), made_anew(other, across)
                self.assertEqual((telling(again, beside, pairs), portrait(again)), first)


class Calls(PairCalls):
    def test_refusals(self):
        self.is_refused(telling)

    def test_nothing_handed_in_is_changed(self):
        self.changes_nothing(telling)

    def test_behind_a_refusal_the_same_is_told(self):
        one, other = World(3, {"red": [0]}, {}), World(3, {"red": [1, 2]}, {})
        first = telling(one, other, [(0, 1)])
        for bad in ([(0, 3)], [(0, 1), (-1, 0)]):
            with self.assertRaises(ValueError):
                telling(one, other, bad)
            self.assertEqual(telling(one, other, [(0, 1)]), first)


if __name__ == "__main__":
    unittest.main()
