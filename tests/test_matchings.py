import itertools
import random
import unittest

from tests.helpers import (PairCalls, differing, kept_pairs, slow_fits, slow_matchings, small_worlds, some_pairs,
                           some_world, turned)
from twinrounds.errors import NoThing, Unlike
from twinrounds.matchings import fits, matching
from twinrounds.worlds import World


class Fits(unittest.TestCase):
    def fit(self, told, one, other, pairs):
        self.assertIs(fits(one, other, pairs), told, pairs)

    def test_no_pairs(self):
        for one, other in itertools.product(range(6), range(6)):
            marked, bare = World(one, {"red": list(range(one))}, {}), World(other, {"red": []}, {})
            self.fit(True, marked, bare, [])

    def test_one_pair_by_marks(self):
        one = World(2, {"red": [0], "wet": [0]}, {})
        other = World(4, {"red": [0, 1], "wet": [0, 2]}, {})
        for first, second in itertools.product(range(2), range(4)):
            self.fit((first, second) in [(0, 0), (1, 3)], one, other, [(first, second)])

    def test_one_pair_by_a_tie_to_itself(self):
        one, other = World(2, {}, {"near": [(0, 0)]}), World(2, {}, {"near": [(1, 1)]})
        for first, second in itertools.product(range(2), range(2)):
            self.fit(first != second, one, other, [(first, second)])

    def test_the_same_thing_against_two_others(self):
        one, other = World(2, {}, {}), World(2, {}, {})
        self.fit(False, one, other, [(0, 0), (0, 1)])
        self.fit(False, one, other, [(0, 0), (1, 0)])
        self.fit(False, one, other, [(0, 1), (1, 0), (1, 1)])
        self.fit(True, one, other, [(0, 1), (1, 0)])

    def test_a_mark_on_one_side_alone(self):
        one, other = World(2, {"red": [1]}, {}), World(2, {"red": []}, {})
        self.fit(True, one, other, [(0, 0)])
        self.fit(False, one, other, [(1, 0)])
        self.fit(False, one, other, [(0, 0), (1, 1)])
        self.fit(False, other, one, [(0, 0), (1, 1)])

    def test_ties_one_way_and_both_ways(self):
        worlds = {"none": World(2, {}, {"near": []}), "there": World(2, {}, {"near": [(0, 1)]}),
                  "back": World(2, {}, {"near": [(1, 0)]}), "both": World(2, {}, {"near": [(0, 1), (1, 0)]})}
        crossed = {"none": "none", "there": "back", "back": "there", "both": "both"}
        for one, other in itertools.product(worlds, worlds):
            for pairs in ([(0, 0), (1, 1)], [(1, 1), (0, 0)]):
                self.fit(one == other, worlds[one], worlds[other], pairs)
            for pairs in ([(0, 1), (1, 0)], [(1, 0), (0, 1)]):
                self.fit(crossed[one] == other, worlds[one], worlds[other], pairs)
            for pair in itertools.product(range(2), range(2)):
                self.fit(True, worlds[one], worlds[other], [pair])

    def test_a_fact_of_the_last_word(self):
        marks, ties = {"a": [], "b": [], "c": []}, {"d": [], "e": [], "f": []}
        bare = World(3, marks, ties)
        for word in marks:
            self.fit(False, World(3, {**marks, word: [2]}, ties), bare, [(0, 0), (1, 1), (2, 2)])
        for word, pair in itertools.product(ties, [(0, 2), (2, 0), (2, 2), (1, 2)]):
            other = World(3, marks, {**ties, word: [pair]})
            self.fit(False, bare, other, [(0, 0), (1, 1), (2, 2)])
            self.fit(True, bare, other, [(0, 0), (1, 1)])

    def test_a_pair_twice(self):
        one, other = World(3, {"red": [0]}, {"near": [(0, 1)]}), World(2, {"red": [1]}, {"near": [(1, 0)]})
        for pairs in ([(0, 1)], [(0, 1), (1, 0)], [(0, 0)], [(2, 0), (0, 1)], [(1, 0)]):
            told = slow_fits(one, other, pairs)
            self.fit(told, one, other, pairs)
            self.fit(told, one, other, pairs + pairs)
            self.fit(told, one, other, pairs + [pairs[0]])

    def test_up_to_five_pairs(self):
        ring = World(5, {"red": [0]}, {"near": [(thing, (thing + 1) % 5) for thing in range(5)]})
        for count in range(6):
            pairs = [(thing, thing) for thing in range(5)][:count]
            self.fit(True, ring, ring, pairs)
            shifted = [(thing, (thing + 1) % 5) for thing in range(1, 5)][:count]
            self.fit(count < 4, ring, ring, shifted)

    def test_one_world_may_be_the_greater(self):
        self.fit(True, World(5, {}, {}), World(1, {}, {}), [(4, 0)])
        self.fit(True, World(1, {}, {}), World(5, {}, {}), [(0, 4)])
        self.fit(False, World(5, {}, {}), World(1, {}, {}), [(4, 0), (3, 0)])

    def test_every_pair_of_small_worlds(self):
        worlds = list(small_worlds(2))
        for one, other in itertools.product(worlds, worlds):
            for count in range(3):
                for pairs in itertools.combinations(itertools.product(range(one.size), range(other.size)), count):
                    self.fit(slow_fits(one, other, pairs), one, other, list(pairs))

    def test_against_the_slow_way(self):
        dice = random.Random(12)
        found = {True: 0, False: 0}
        for turn in range(6000):
            one = some_world(dice, dice.randrange(6), share=0.15)
            order = dice.sample(range(one.size), one.size)
            other = turned(one, order) if turn % 2 else some_world(dice, dice.randrange(6), share=0.15)
            pairs = kept_pairs(dice, order, turn % 6) if turn % 4 == 1 else some_pairs(dice, one, other, turn % 6)
            told = slow_fits(one, other, pairs)
            found[told] += 1
            self.fit(told, one, other, pairs)
        self.assertGreater(min(found.values()), 1000)


class Matching(unittest.TestCase):
    def is_matched(self, one, other, pairs):
        told = matching(one, other, pairs)
        good = slow_matchings(one, other, pairs)
        if not good:
            self.assertIsNone(told)
            return
        self.assertIs(told.__class__, list)
        self.assertIn(told, good)
        self.assertEqual(sorted(told), list(range(other.size)))
        for first, second in pairs:
            self.assertEqual(told[first], second)
        for thing in told:
            self.assertIs(thing.__class__, int)
        self.assertEqual(matching(one, other, pairs), told)

    def test_worlds_without_things(self):
        bare = World(0, {"red": []}, {"near": []})
        self.assertEqual(matching(bare, bare, []), [])
        self.assertEqual(matching(bare, World(0, {"red": []}, {"near": []}), []), [])
        for size in range(1, 6):
            world = World(size, {"red": []}, {"near": []})
            self.assertIsNone(matching(bare, world, []))
            self.assertIsNone(matching(world, bare, []))

    def test_sizes_that_differ(self):
        for one, other in itertools.product(range(6), range(6)):
            told = matching(World(one, {}, {}), World(other, {}, {}), [])
            self.assertEqual(told is None, one != other)
        self.assertIsNone(matching(World(2, {}, {}), World(3, {}, {}), [(0, 0), (1, 1)]))
        self.assertIsNone(matching(World(3, {}, {}), World(2, {}, {}), [(0, 0), (1, 1)]))

    def test_things_in_each_other_order(self):
        stiff = World(5, {"red": [0, 3]}, {"near": [(0, 1), (1, 2), (2, 0), (3, 3)]})
        for order in itertools.permutations(range(5)):
            self.assertEqual(matching(stiff, turned(stiff, order), []), list(order))
            for first in range(5):
                self.assertEqual(matching(stiff, turned(stiff, order), [(first, order[first])]), list(order))
                self.assertIsNone(matching(stiff, turned(stiff, order), [(first, order[(first + 1) % 5])]))

    def test_pairs_to_keep_where_there_are_many_matchings(self):
        for size in range(1, 6):
            world = World(size, {"red": []}, {"near": []})
            for count in range(min(size, 3) + 1):
                for firsts, seconds in itertools.product(itertools.permutations(range(size), count), repeat=2):
                    self.is_matched(world, world, list(zip(firsts, seconds)))

    def test_a_ring_and_its_turns(self):
        ring = World(5, {}, {"near": [(thing, (thing + 1) % 5) for thing in range(5)]})
        for by, first in itertools.product(range(5), range(5)):
            told = matching(ring, ring, [(first, (first + by) % 5)])
            self.assertEqual(told, [(thing + by) % 5 for thing in range(5)])
        self.assertIsNone(matching(ring, ring, [(0, 0), (1, 2)]))

    def test_pairs_that_do_not_fit(self):
        world = World(2, {}, {})
        self.assertIsNone(matching(world, world, [(0, 0), (0, 1)]))
        self.assertIsNone(matching(world, world, [(0, 0), (1, 0)]))
        self.assertIsNone(matching(World(2, {"red": [0]}, {}), World(2, {"red": [0]}, {}), [(0, 1)]))

    def test_pairs_that_fit_but_no_matching_keeps(self):
        one = World(3, {}, {"near": [(0, 1)]})
        self.assertTrue(fits(one, one, [(0, 2)]))
        self.assertIsNone(matching(one, one, [(0, 2)]))
        self.assertEqual(matching(one, one, [(2, 2)]), [0, 1, 2])

    def test_a_pair_twice_and_in_another_order(self):
        world = World(4, {"red": [0, 1]}, {})
        for pairs in ([(0, 1), (2, 3)], [(2, 3), (0, 1)], [(0, 1), (2, 3), (0, 1), (2, 3)]):
            self.assertEqual(matching(world, world, pairs), [1, 0, 3, 2])

    def test_worlds_that_differ_by_one_fact(self):
        dice = random.Random(13)
        for turn in range(150):
            world = some_world(dice, 1 + turn % 5)
            order = dice.sample(range(world.size), world.size)
            places = [(word, dice.randrange(world.size)) for word in world.mark_words()]
            places += [(word, (dice.randrange(world.size), dice.randrange(world.size))) for word in world.tie_words()]
            for word, place in places:
                self.assertIsNone(matching(world, turned(differing(world, word, place), order), []))
                self.assertIsNone(matching(differing(world, word, place), world, []))

    def test_every_two_small_worlds(self):
        worlds = list(small_worlds(2))
        for one, other in itertools.product(worlds, worlds):
            self.is_matched(one, other, [])
            for pair in itertools.product(range(one.size), range(other.size)):
                self.is_matched(one, other, [pair])

    def test_against_the_slow_way(self):
        dice = random.Random(14)
        for turn in range(600):
            one = some_world(dice, dice.randrange(6), ["red"], ["near"], 0.1)
            order = dice.sample(range(one.size), one.size)
            other = turned(one, order) if turn % 3 else some_world(dice, one.size, ["red"], ["near"], 0.1)
            self.is_matched(one, other, kept_pairs(dice, order, turn % 6))
            self.is_matched(one, other, some_pairs(dice, one, other, turn % 3))


class Apart(unittest.TestCase):
    def setUp(self):
        self.one = World(3, {"red": [0]}, {"near": [(0, 1)]})
        self.other = turned(self.one, [2, 0, 1])

    def test_a_told_list_is_the_asker_s_own(self):
        pairs = [(0, 2)]
        first = matching(self.one, self.other, pairs)
        self.assertEqual(first, [2, 0, 1])
        first.append(7)
        first[0] = 9
        second = matching(self.one, self.other, pairs)
        self.assertEqual(second, [2, 0, 1])
        pairs.append((1, 1))
        self.assertIsNone(matching(self.one, self.other, pairs))
        self.assertEqual(second, [2, 0, 1])
        bare = World(0, {}, {})
        matching(bare, bare, []).append(1)
        self.assertEqual(matching(bare, bare, []), [])

    def test_a_refused_call_changes_nothing(self):
        for turn in range(2):
            for call in (fits, matching):
                with self.assertRaises(NoThing):
                    call(self.one, self.other, [(0, 2), (3, 0)])
                with self.assertRaises(Unlike):
                    call(self.one, World(3, {}, {}), [])
            self.assertIs(fits(self.one, self.other, [(0, 2)]), True)
            self.assertEqual(matching(self.one, self.other, [(0, 2)]), [2, 0, 1])


class Calls(PairCalls):
    def test_refusals(self):
        self.is_refused(fits)
        self.is_refused(matching)

    def test_nothing_handed_in_is_changed(self):
        self.changes_nothing(fits)
        self.changes_nothing(matching)


if __name__ == "__main__":
    unittest.main()
