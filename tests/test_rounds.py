import itertools
import random
import time
import unittest

from tests.helpers import (PairCalls, block_worlds, differing, halves, kept_pairs, ordered, slow_fits, slow_matchings,
                           small_worlds, some_pairs, some_saying, some_world, turned, wrapped)
from twinrounds.errors import NoThing, Unlike
from twinrounds.rounds import groups, lasts, rank
from twinrounds.sayings import is_so
from twinrounds.worlds import World

COUNTS = [0, 1, 2, 3, 4, 5, 6, 7, 60]


def slow_lasts(one, other, pairs, count, known):
    """Word by word what the document tells of rounds; what was found is kept in known."""
    key = (frozenset(pairs), count)
    if key not in known:
        known[key] = slow_fits(one, other, pairs) and (count == 0 or slow_lasts_more(one, other, pairs, count, known))
    return known[key]


def slow_lasts_more(one, other, pairs, count, known):
    firsts, seconds = range(one.size), range(other.size)

    def good(first, second):
        return slow_lasts(one, other, list(pairs) + [(first, second)], count - 1, known)

    return (all(any(good(first, second) for second in seconds) for first in firsts)
            and all(any(good(first, second) for first in firsts) for second in seconds))


def slow_rank(one, other, pairs, known):
    most = max(one.size, other.size) + 2
    lasted = [slow_lasts(one, other, pairs, count, known) for count in range(most)]
    return None if all(lasted) else lasted.index(False)


class Checks(unittest.TestCase):
    def is_ranked(self, one, other, pairs, told):
        self.assertEqual(rank(one, other, pairs), told, pairs)
        self.assertIn(rank(one, other, pairs).__class__, (int, None.__class__))
        for count in COUNTS:
            self.assertIs(lasts(one, other, pairs, count), told is None or count < told, (pairs, count))

    def goes_by_the_rule(self, one, other, pairs, known):
        told = slow_rank(one, other, pairs, known)
        self.is_ranked(one, other, pairs, told)
        for count in range(8):
            self.assertIs(slow_lasts(one, other, pairs, count, known), told is None or count < told)
        self.assertEqual(told is None, bool(slow_matchings(one, other, pairs)))
        self.assertEqual(told == 0, not slow_fits(one, other, pairs))
        if told is not None:
            self.assertLessEqual(told, max(one.size, other.size))
        return told


class Ranks(Checks):
    def test_worlds_without_words(self):
        for one, other in itertools.product(range(6), range(6)):
            told = None if one == other else min(one, other) + 1
            self.is_ranked(World(one, {}, {}), World(other, {}, {}), [], told)

    def test_worlds_without_things(self):
        bare = World(0, {"red": []}, {"near": []})
        self.is_ranked(bare, bare, [], None)
        for size in range(1, 6):
            world = World(size, {"red": [0]}, {"near": []})
            self.is_ranked(bare, world, [], 1)
            self.is_ranked(world, bare, [], 1)

    def test_worlds_in_a_row(self):
        for one, other in itertools.product(range(6), range(6)):
            self.goes_by_the_rule(ordered(one), ordered(other), [], {})
        self.is_ranked(ordered(3), ordered(4), [], 3)
        self.is_ranked(ordered(1), ordered(2), [], 2)
        self.is_ranked(ordered(2), ordered(3), [], 2)
        self.is_ranked(ordered(4), ordered(5), [], 3)

    def test_marks(self):
        one, other = World(2, {"red": [0]}, {}), World(2, {"red": []}, {})
        self.is_ranked(one, other, [], 1)
        self.is_ranked(one, other, [(1, 0)], 1)
        self.is_ranked(one, other, [(0, 0)], 0)
        self.is_ranked(one, one, [(0, 0)], None)
        self.is_ranked(one, one, [(0, 1)], 0)
        self.is_ranked(World(3, {"red": [0, 1]}, {}), World(3, {"red": [0]}, {}), [], 2)
        self.is_ranked(World(5, {"red": [0, 1]}, {}), World(4, {"red": [2, 3]}, {}), [], 3)

    def test_a_thing_of_no_pair_on_one_side(self):
        one, other = World(1, {}, {}), World(2, {}, {})
        self.is_ranked(one, other, [(0, 1)], 1)
        self.is_ranked(other, one, [(1, 0)], 1)
        self.is_ranked(one, other, [], 2)
        self.is_ranked(other, one, [], 2)

    def test_pairs_that_do_not_fit(self):
        world = World(3, {}, {"near": [(0, 0), (1, 2)]})
        for pairs in ([(0, 1)], [(0, 0), (0, 1)], [(1, 2), (2, 2)], [(1, 2), (2, 1)], [(1, 1), (2, 2), (0, 2)]):
            self.is_ranked(world, world, pairs, 0)

    def test_a_thing_far_from_its_like(self):
        row = World(5, {}, {"near": [(thing, thing + 1) for thing in range(4)]})
        known = {}
        found = [[self.goes_by_the_rule(row, row, [pair], known) for pair in itertools.product([thing], range(5))]
                 for thing in range(5)]
        self.assertEqual([found[thing][thing] for thing in range(5)], [None] * 5)
        self.assertEqual(found[0][1], 1)
        self.assertEqual(found[1][2], 2)

    def test_every_two_small_worlds(self):
        worlds = list(small_worlds(2))
        for one, other in itertools.product(worlds, worlds):
            known = {}
            for count in range(3):
                for pairs in itertools.combinations(itertools.product(range(one.size), range(other.size)), count):
                    self.assertEqual(rank(one, other, list(pairs)), slow_rank(one, other, pairs, known))

    def test_some_worlds_of_three_things(self):
        worlds = [world for world in small_worlds(3) if world.size == 3][::41]
        for one, other in itertools.product(worlds, worlds):
            self.assertEqual(rank(one, other, []), slow_rank(one, other, [], {}))
            self.assertEqual(rank(one, other, [(0, 0)]), slow_rank(one, other, [(0, 0)], {}))

    def test_by_the_rule(self):
        dice = random.Random(14)
        found = []
        for turn in range(300):
            share = [0.05, 0.2, 0.4][turn // 6 % 3]
            one = some_world(dice, turn % 6, ["red"][:turn % 2], ["near"], share)
            order = dice.sample(range(one.size), one.size)
            other = [turned(one, order), some_world(dice, one.size, one.mark_words(), ["near"], share),
                     some_world(dice, dice.randrange(6), one.mark_words(), ["near"], share)][turn % 3]
            known = {}
            for count in range(6):
                pairs = kept_pairs(dice, order, count) if turn % 3 == 0 else some_pairs(dice, one, other, count)
                found.append(self.goes_by_the_rule(one, other, pairs, known))
        for told in (None, 0, 1, 2):
            self.assertIn(told, found)

    def test_worlds_of_blocks(self):
        found = []
        for one, other in itertools.product(block_worlds(), block_worlds()):
            for pairs in ([], [(0, other.size - 1)] if one.size > 0 and other.size > 0 else []):
                told = rank(one, other, pairs)
                self.assertEqual(told, slow_rank(one, other, pairs, {}))
                self.assertEqual(told is None, bool(slow_matchings(one, other, pairs)))
                self.assertLessEqual(told or 0, max(one.size, other.size))
                found.append(told)
        for told in (None, 1, 2, 3, 4, 5):
            self.assertIn(told, found)

    def test_worlds_that_differ_by_one_fact(self):
        dice = random.Random(20)
        for turn in range(60):
            one = some_world(dice, 1 + turn % 5, [], ["near"], [0, 0.1, 0.3][turn % 3])
            order = dice.sample(range(one.size), one.size)
            other = differing(turned(one, order), "near", (0, dice.randrange(one.size)))
            self.assertIsNotNone(self.goes_by_the_rule(one, other, [], {}))

    def test_falls_once_at_most(self):
        dice = random.Random(15)
        for turn in range(60):
            one, other = [some_world(dice, size, ["red"], ["near"]) for size in (turn % 6, 5 - turn % 6)]
            for count in range(4):
                pairs = some_pairs(dice, one, other, count)
                lasted = [lasts(one, other, pairs, rounds) for rounds in range(61)]
                self.assertEqual(lasted, sorted(lasted, reverse=True))
                told = rank(one, other, pairs)
                self.assertEqual(told, None if all(lasted) else lasted.index(False))

    def test_the_other_way_round(self):
        dice = random.Random(16)
        for turn in range(100):
            one, other = [some_world(dice, dice.randrange(6), ["red"], ["near"], 0.2) for side in range(2)]
            pairs = some_pairs(dice, one, other, turn % 3)
            crossed = [(second, first) for first, second in pairs]
            self.assertEqual(rank(one, other, pairs), rank(other, one, crossed))

    def test_in_another_order_and_twice(self):
        dice = random.Random(17)
        for turn in range(60):
            one = some_world(dice, 1 + turn % 5, [], ["near"], 0.2)
            other = turned(one, dice.sample(range(one.size), one.size))
            pairs = some_pairs(dice, one, other, 1 + turn % 3)
            told = rank(one, other, pairs)
            for again in itertools.permutations(pairs):
                self.is_ranked(one, other, list(again), told)
                self.is_ranked(one, other, list(again) + [again[0]], told)
            self.is_ranked(one, other, [pairs[0]] * 5 + pairs, told)

    def test_five_pairs(self):
        for order in itertools.permutations(range(5)):
            world = World(5, {"red": [0, 1, 2]}, {})
            pairs = list(enumerate(order))
            self.is_ranked(world, world, pairs, None if max(order[:3]) == 2 else 0)
            self.is_ranked(World(5, {}, {}), World(5, {}, {}), pairs, None)

    def test_the_greatest_worlds(self):
        pairs = list(itertools.product(range(5), range(5)))
        for chosen in ([], pairs, [pair for pair in pairs if pair[0] != pair[1]]):
            one = World(5, {word: [] for word in "abc"}, {word: chosen for word in "def"})
            less = World(4, {word: [] for word in "abc"},
                         {word: [pair for pair in chosen if max(pair) < 4] for word in "def"})
            self.is_ranked(one, one, [], None)
            self.is_ranked(one, less, [], 5)
            self.is_ranked(less, one, [], 5)
            self.assertEqual(groups(one, 60), [[0, 1, 2, 3, 4]])

    def test_within_a_fair_time(self):
        world = World(5, {word: [] for word in "abc"}, {word: [] for word in "def"})
        for call in (lambda: rank(world, world, []), lambda: lasts(world, world, [], 60), lambda: groups(world, 60)):
            start = time.perf_counter()
            call()
            self.assertLess(time.perf_counter() - start, 5)


class SaidAlike(unittest.TestCase):
    """No saying of a depth that is at most a count parts two worlds at pairs that last it."""

    def test_by_dice(self):
        dice = random.Random(18)
        asked = {count: 0 for count in range(4)}
        letters = "abcde"
        for turn in range(600):
            share = [0, 0.05, 0.15][turn // 3 % 3]
            one, other = [some_world(dice, dice.randrange(2, 6), [], ["near"], share) for side in range(2)]
            if turn % 3 == 0:
                other = differing(turned(one, dice.sample(range(one.size), one.size)), "near", (0, 1))
            pairs = some_pairs(dice, one, other, turn % 4)
            places = [{letter: pair[side] for letter, pair in zip(letters, pairs)} for side in range(2)]
            for count in range(4):
                if lasts(one, other, pairs, count) and rank(one, other, pairs) is not None:
                    for saying in self.sayings(dice, letters[:len(pairs)], count):
                        self.assertEqual(is_so(one, saying, places[0]), is_so(other, saying, places[1]), saying)
                        asked[count] += 1
        self.assertGreater(min(asked.values()), 100, asked)

    def sayings(self, dice, free, count):
        """Sayings of a depth of at most the count, whose free names are at most those."""
        for turn in range(10):
            if free:
                yield some_saying(dice, free, count, 5, [], ["near"])
            elif count > 0:
                yield self.closed(dice, count)

    def closed(self, dice, count):
        names = "xyz"[:count]
        bare = some_saying(dice, names, 0, 5, [], ["near"])
        return wrapped(bare, [(dice.choice(["some", "all"]), name) for name in dice.sample(names, count)])

    def test_what_parts_them_at_the_rank(self):
        three, two = World(3, {}, {}), World(2, {}, {})
        self.assertEqual(rank(three, two, []), 3)
        apart = halves("both", [("not", ("same", first, second)) for first, second in ("ab", "bc", "ac")])
        saying = wrapped(apart, [("some", name) for name in "cba"])
        self.assertIs(is_so(three, saying), True)
        self.assertIs(is_so(two, saying), False)


class Groups(unittest.TestCase):
    def are_by_the_rule(self, world):
        known = {}
        for count in COUNTS:
            told = groups(world, count)
            self.assertIs(told.__class__, list)
            self.assertEqual(sorted(sum(told, [])), list(range(world.size)))
            self.assertEqual(told, sorted(sorted(group) for group in told))
            self.assertTrue(all(told))
            home = {thing: at for at, group in enumerate(told) for thing in group}
            for one, other in itertools.product(range(world.size), range(world.size)):
                alike = slow_lasts(world, world, [(one, other)], min(count, 7), known)
                self.assertEqual(home[one] == home[other], alike, (one, other, count))

    def test_a_world_without_things(self):
        for count in COUNTS:
            self.assertEqual(groups(World(0, {"red": []}, {"near": []}), count), [])

    def test_by_hand(self):
        row = World(5, {}, {"near": [(thing, thing + 1) for thing in range(4)]})
        self.assertEqual(groups(row, 0), [[0, 1, 2, 3, 4]])
        self.assertEqual(groups(row, 1), [[0], [1, 2, 3], [4]])
        self.assertEqual(groups(row, 2), [[0], [1], [2], [3], [4]])
        marked = World(5, {"red": [1, 4]}, {"near": [(3, 3)]})
        self.assertEqual(groups(marked, 0), [[0, 2], [1, 4], [3]])
        self.assertEqual(groups(marked, 60), [[0, 2], [1, 4], [3]])
        pair = World(4, {}, {"near": [(0, 3), (3, 0)]})
        self.assertEqual(groups(pair, 0), [[0, 1, 2, 3]])
        self.assertEqual(groups(pair, 1), [[0, 3], [1, 2]])

    def test_every_small_world(self):
        for world in list(small_worlds(2)) + list(small_worlds(3))[::23]:
            self.are_by_the_rule(world)

    def test_some_greater_worlds(self):
        dice = random.Random(19)
        for turn in range(36):
            share = [0.1, 0.3][turn % 4 // 2]
            self.are_by_the_rule(some_world(dice, 3 + turn % 3, ["red"][:turn % 2], ["near"], share))


class Apart(unittest.TestCase):
    def setUp(self):
        self.one = World(3, {"red": [0]}, {"near": [(0, 1)]})
        self.other = turned(self.one, [2, 0, 1])

    def test_told_groups_are_the_asker_s_own(self):
        first = groups(self.one, 0)
        self.assertEqual(first, [[0], [1, 2]])
        first[0].append(7)
        first.pop()
        second = groups(self.one, 0)
        self.assertEqual(second, [[0], [1, 2]])
        groups(self.one, 1)[0].append(9)
        groups(self.other, 0)
        self.assertEqual(second, [[0], [1, 2]])

    def test_pairs_changed_between(self):
        pairs = [(0, 2)]
        self.assertIsNone(rank(self.one, self.other, pairs))
        pairs.append((1, 1))
        self.assertEqual(rank(self.one, self.other, pairs), 0)
        pairs.clear()
        self.assertIs(lasts(self.one, self.other, pairs, 60), True)

    def test_a_refused_call_changes_nothing(self):
        for turn in range(2):
            with self.assertRaises(NoThing):
                rank(self.one, self.other, [(0, 2), (3, 0)])
            with self.assertRaises(NoThing):
                lasts(self.one, self.other, [(0, 2), (0, 3)], 1)
            with self.assertRaises(Unlike):
                rank(self.one, World(3, {}, {}), [])
            self.assertIsNone(rank(self.one, self.other, [(0, 2)]))
            self.assertIs(lasts(self.one, self.other, [(1, 1)], 1), False)
            self.assertIs(lasts(self.one, self.other, [(1, 1)], 0), True)


class Calls(PairCalls):
    def test_refusals(self):
        self.is_refused(rank)
        for count in (0, 1, 60):
            self.is_refused(lambda one, other, pairs: lasts(one, other, pairs, count))

    def test_nothing_handed_in_is_changed(self):
        self.changes_nothing(rank)
        self.changes_nothing(lambda one, other, pairs: lasts(one, other, pairs, 2))
        self.changes_nothing(lambda one, other, pairs: groups(one, 2))


if __name__ == "__main__":
    unittest.main()
