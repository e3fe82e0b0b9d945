import itertools
import random
import time
import unittest

from tests.helpers import (HUGE, PairCalls, block_worlds, full_world, ordered, small_worlds, some_cases, some_pairs,
                           some_world, turned)
from twinrounds.errors import NoPointing, NoThing, RoundError, Unlike
from twinrounds.hands import pointing, reply
from twinrounds.rounds import rank
from twinrounds.worlds import World

ENDLESS = 100


def counted(told):
    """A rank with None greater than every count."""
    return ENDLESS if told is None else told


def ranks_behind(one, other, pairs, side, thing):
    """For each reply the rank of the pairs with the new one put to them."""
    replies = range(other.size if side == 0 else one.size)
    new = [(thing, replied) if side == 0 else (replied, thing) for replied in replies]
    return [counted(rank(one, other, pairs + [pair])) for pair in new]


def all_pointings(one, other):
    return [(0, thing) for thing in range(one.size)] + [(1, thing) for thing in range(other.size)]


class Checks(PairCalls):
    def points_well(self, one, other, pairs):
        reached = counted(rank(one, other, pairs))
        if reached in (0, ENDLESS):
            self.refused(NoPointing, {}, pointing, one, other, pairs)
            return None
        told = pointing(one, other, pairs)
        self.assertIs(told.__class__, tuple)
        self.assertEqual([part.__class__ for part in told], [int, int])
        self.assertIn(told, all_pointings(one, other))
        for behind in ranks_behind(one, other, pairs, told[0], told[1]):
            self.assertLess(behind, reached)
        self.assertEqual(pointing(one, other, pairs), told)
        return told

    def replies_best(self, one, other, pairs, side, thing):
        behind = ranks_behind(one, other, pairs, side, thing)
        told = reply(one, other, pairs, side, thing)
        self.assertEqual(reply(one, other, pairs, side, thing), told)
        if not behind:
            self.assertIsNone(told)
            return
        self.assertIs(told.__class__, int)
        self.assertIn(told, range(len(behind)))
        self.assertEqual(behind[told], max(behind))

    def replies_best_to_all(self, one, other, pairs):
        for side, thing in all_pointings(one, other):
            self.replies_best(one, other, pairs, side, thing)


class Pointing(Checks):
    def test_by_hand(self):
        one, other = World(2, {"red": [0]}, {}), World(2, {"red": []}, {})
        self.assertEqual(pointing(one, other, []), (0, 0))
        self.assertEqual(pointing(other, one, []), (1, 0))
        self.assertEqual(pointing(one, other, [(1, 1)]), (0, 0))
        self.assertEqual(pointing(World(1, {}, {}), World(2, {}, {}), [(0, 1)]), (1, 0))
        self.assertEqual(pointing(World(2, {}, {}), World(1, {}, {}), [(0, 0)]), (0, 1))
        tied, bare = World(3, {}, {"near": [(2, 2)]}), World(3, {}, {"near": []})
        self.assertEqual(pointing(tied, bare, [(0, 2), (0, 2), (1, 0)]), (0, 2))
        self.assertEqual(pointing(bare, tied, []), (1, 2))

    def test_a_world_without_things(self):
        bare = full_world(0, False, False)
        for size in range(1, 6):
            self.assertEqual(self.points_well(full_world(size, True, True), bare, [])[0], 0)
            self.assertEqual(self.points_well(bare, full_world(size, True, True), [])[0], 1)
        self.refused(NoPointing, {}, pointing, bare, bare, [])

    def test_every_two_small_worlds(self):
        worlds = list(small_worlds(2))
        for one, other in itertools.product(worlds, worlds):
            for count in range(3):
                for pairs in itertools.combinations(itertools.product(range(one.size), range(other.size)), count):
                    self.points_well(one, other, list(pairs))

    def test_by_dice(self):
        found = []
        for one, other, pairs in some_cases(random.Random(31), 700):
            told = self.points_well(one, other, pairs)
            found.append(None if told is None else told[0])
        for side in (None, 0, 1):
            self.assertGreater(found.count(side), 50, side)

    def test_worlds_in_a_row_and_of_blocks(self):
        for one, other in itertools.product(range(6), range(6)):
            self.points_well(ordered(one), ordered(other), [])
        for one, other in itertools.combinations(list(block_worlds())[::2], 2):
            self.points_well(one, other, [])

    def test_the_order_of_the_pairs_changes_nothing(self):
        one, other = ordered(5), ordered(4)
        pairs = [(0, 0), (4, 3), (0, 0)]
        first = self.points_well(one, other, pairs)
        for again in itertools.permutations(pairs):
            self.assertEqual(pointing(one, other, list(again)), first)

    def test_five_pairs_and_somewhat_more(self):
        for count in (5, 6, 8):
            self.points_well(World(4, {}, {}), World(5, {}, {}), [(0, 0)] * count)
            self.points_well(World(5, {}, {}), World(4, {}, {}), [(0, 0), (1, 1), (2, 2), (3, 3)] + [(0, 0)] * count)

    def test_within_a_fair_time(self):
        for marked, tied in itertools.product([False, True], [False, True]):
            for sizes in ((4, 5), (5, 4)):
                one, other = [full_world(size, marked, tied) for size in sizes]
                start = time.perf_counter()
                pointing(one, other, [])
                reply(one, other, [(0, 0)], 1, 2)
                self.assertLess(time.perf_counter() - start, 5)
                self.points_well(one, other, [])


class Replies(Checks):
    def test_by_hand(self):
        one = World(3, {"red": [1]}, {"near": [(0, 1)]})
        other = turned(one, [2, 0, 1])
        for thing, like in enumerate([2, 0, 1]):
            self.assertEqual(reply(one, other, [], 0, thing), like)
            self.assertEqual(reply(one, other, [], 1, like), thing)

    def test_a_world_without_things(self):
        bare = World(0, {"red": []}, {})
        for size in range(1, 6):
            world = World(size, {"red": [0]}, {})
            for thing in range(size):
                self.assertIsNone(reply(world, bare, [], 0, thing))
                self.assertIsNone(reply(bare, world, [], 1, thing))

    def test_a_thing_of_a_pair(self):
        world = World(4, {}, {})
        pairs = [(0, 3), (1, 2)]
        for first, second in pairs:
            self.assertEqual(reply(world, world, pairs, 0, first), second)
            self.assertEqual(reply(world, world, pairs, 1, second), first)
        for thing in (2, 3):
            self.assertIn(reply(world, world, pairs, 0, thing), (0, 1))
        # Also where the other world has no thing left besides.
        self.assertEqual(reply(World(3, {}, {}), World(1, {}, {}), [(2, 0)], 0, 2), 0)
        self.assertEqual(reply(World(3, {}, {}), World(1, {}, {}), [(2, 0)], 1, 0), 2)

    def test_pairs_that_do_not_fit(self):
        one, other = World(3, {"red": [0]}, {}), World(2, {"red": [1]}, {})
        for pairs in ([(0, 0)], [(1, 0), (2, 0)], [(0, 1), (0, 0), (1, 1), (2, 0), (2, 0)]):
            self.assertEqual(rank(one, other, pairs), 0)
            self.replies_best_to_all(one, other, pairs)

    def test_a_rank_of_none(self):
        dice = random.Random(32)
        for turn in range(20):
            one = some_world(dice, 1 + turn % 5, share=0.2)
            order = dice.sample(range(one.size), one.size)
            other = turned(one, order)
            pairs = list(enumerate(order))[:turn % 3]
            self.assertIsNone(rank(one, other, pairs))
            for side, thing in all_pointings(one, other):
                told = reply(one, other, pairs, side, thing)
                self.assertIsNone(rank(one, other, pairs + [(thing, told) if side == 0 else (told, thing)]))
                self.replies_best(one, other, pairs, side, thing)

    def test_five_pairs(self):
        world = World(5, {"red": [0, 1]}, {})
        for order in ([1, 0, 2, 3, 4], [2, 1, 0, 3, 4], [0, 0, 0, 0, 0]):
            self.replies_best_to_all(world, world, list(enumerate(order)))
        self.replies_best_to_all(World(5, {}, {}), World(4, {}, {}), [(4, 0), (3, 1)] * 3)

    def test_every_two_small_worlds(self):
        worlds = list(small_worlds(2))
        for one, other in itertools.product(worlds, worlds[::3]):
            for count in range(2):
                for pairs in itertools.combinations(itertools.product(range(one.size), range(other.size)), count):
                    self.replies_best_to_all(one, other, list(pairs))

    def test_by_dice(self):
        for one, other, pairs in some_cases(random.Random(33), 250):
            self.replies_best_to_all(one, other, pairs)

    def test_the_order_of_the_pairs_changes_nothing(self):
        dice = random.Random(34)
        for turn in range(20):
            one, other = [some_world(dice, 4, ["red"], ["near"], 0.1) for side in range(2)]
            pairs = some_pairs(dice, one, other, 1 + turn % 2)
            for side, thing in all_pointings(one, other):
                first = reply(one, other, pairs, side, thing)
                self.assertEqual(reply(one, other, pairs[::-1] + pairs, side, thing), first)


class Calls(Checks):
    def test_refusals(self):
        self.is_refused(pointing)
        # What is said of the pairs comes ahead of the thing, be it one or none.
        for side, thing in itertools.product((0, 1), (0, 5, -1, HUGE)):
            self.is_refused(lambda one, other, pairs: reply(one, other, pairs, side, thing))

    def test_no_pointing(self):
        one, other = World(2, {"red": [0]}, {}), World(3, {"red": [2]}, {})
        for pairs in ([(0, 0)], [(1, 0), (1, 1)], [(0, 2), (0, 2), (1, 2)]):
            self.assertEqual(rank(one, other, pairs), 0)
            self.refused(NoPointing, {}, pointing, one, other, pairs)
        for pairs in ([], [(0, 0)], [(1, 1), (0, 0)]):
            self.assertIsNone(rank(one, one, pairs))
            self.refused(NoPointing, {}, pointing, one, one, pairs)
        for above in (RoundError, ValueError):
            with self.assertRaises(above):
                pointing(one, one, [])

    def test_things_ahead_of_no_pointing(self):
        one = World(2, {"red": [0]}, {})
        self.no_thing(2, pointing, one, one, [(0, 1), (0, 2)])
        self.no_thing(-1, pointing, one, one, [(-1, 0)])

    def test_a_thing_that_is_none_of_that_side(self):
        for sizes in itertools.product(range(6), range(6)):
            one, other = [World(size, {"red": []}, {"near": []}) for size in sizes]
            pairs = [(0, 0)] if 0 not in sizes else []
            for side in (0, 1):
                for thing in (sizes[side], -1, HUGE, -HUGE):
                    self.no_thing(thing, reply, one, other, pairs, side, thing)
                # A thing of the other side's world alone is none either.
                if sizes[1 - side] > sizes[side]:
                    self.no_thing(sizes[1 - side] - 1, reply, one, other, pairs, side, sizes[1 - side] - 1)
                elif sizes[side] > 0:
                    self.assertIn(reply(one, other, pairs, side, sizes[side] - 1), [None] + list(range(5)))

    def test_a_thing_where_there_is_no_reply(self):
        bare, world = World(0, {}, {}), World(2, {}, {})
        self.no_thing(2, reply, world, bare, [], 0, 2)
        self.no_thing(0, reply, world, bare, [], 1, 0)
        self.no_thing(0, reply, bare, world, [], 0, 0)
        self.no_thing(-1, reply, bare, world, [], 1, -1)

    def test_nothing_handed_in_is_changed(self):
        self.changes_nothing(pointing)
        for side, thing in itertools.product((0, 1), (0, 2, 3, HUGE)):
            self.changes_nothing(lambda one, other, pairs: reply(one, other, pairs, side, thing))

    def test_behind_a_refusal_the_same_is_told(self):
        one, other = World(3, {"red": [0]}, {}), World(3, {"red": [1, 2]}, {})
        first = pointing(one, other, [(0, 1)]), reply(one, other, [(0, 1)], 1, 0)
        for turn in range(2):
            for call in (lambda: pointing(one, other, [(0, 3)]), lambda: reply(one, other, [], 0, 3)):
                with self.assertRaises(NoThing):
                    call()
            with self.assertRaises(Unlike):
                pointing(one, World(3, {}, {}), [])
            with self.assertRaises(NoPointing):
                pointing(one, one, [])
            self.assertEqual((pointing(one, other, [(0, 1)]), reply(one, other, [(0, 1)], 1, 0)), first)


if __name__ == "__main__":
    unittest.main()
