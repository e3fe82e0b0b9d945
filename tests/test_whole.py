"""What the parts of the program tell agrees with one another."""

import itertools
import random
import unittest

from tests.helpers import block_worlds, lying_within, ordered, places_of, some_cases, some_saying, some_world, turned
from twinrounds.hands import pointing, reply
from twinrounds.matchings import fits, matching
from twinrounds.rounds import groups, lasts, rank
from twinrounds.sayings import depth, free_names, is_so, parts
from twinrounds.tellings import portrait, telling
from twinrounds.texts import read, shown


def with_new(pairs, side, thing, replied):
    return pairs + [(thing, replied) if side == 0 else (replied, thing)]


def some_two_worlds():
    """Two worlds each: by dice, in a row, and of blocks, which are apart by many rounds."""
    for one, other, pairs in some_cases(random.Random(51), 150):
        yield one, other
    yield from itertools.combinations([ordered(size) for size in range(5)], 2)
    yield from itertools.combinations(list(block_worlds())[::3], 2)


class Whole(unittest.TestCase):
    def test_a_matching_where_the_rank_is_none_and_nothing_is_told(self):
        found = []
        for one, other, pairs in some_cases(random.Random(52), 500):
            reached = rank(one, other, pairs)
            matched = matching(one, other, pairs)
            self.assertEqual(matched is None, reached is not None)
            self.assertEqual(telling(one, other, pairs) is None, reached is None)
            self.assertEqual(fits(one, other, pairs), reached != 0)
            self.assertEqual(lasts(one, other, pairs, 60), reached is None)
            self.assertEqual(is_so(other, portrait(one)), matching(one, other, []) is not None)
            found.append(reached)
        self.assertGreater(found.count(None), 100)

    def test_a_told_saying_shown_and_read_is_the_same(self):
        for one, other, pairs in some_cases(random.Random(53), 400):
            for told in (telling(one, other, pairs), portrait(one)):
                if told is not None:
                    again = read(shown(told))
                    self.assertEqual(again, told)
                    self.assertEqual((depth(again), free_names(again), parts(again), lying_within(again)),
                                     (depth(told), free_names(told), parts(told), lying_within(told)))
            told = telling(one, other, pairs)
            if told is not None:
                self.assertIs(is_so(one, read(shown(told)), places_of(pairs, 0)), True)
                self.assertIs(is_so(other, read(shown(told)), places_of(pairs, 1)), False)

    def wins_within(self, one, other, pairs, rounds):
        """The first hand's told pointings lead, whatever is answered, to pairs that don't fit."""
        if not fits(one, other, pairs):
            return
        self.assertGreater(rounds, 0)
        side, thing = pointing(one, other, pairs)
        for replied in range((other, one)[side].size):
            self.wins_within(one, other, with_new(pairs, side, thing, replied), rounds - 1)

    def test_the_first_hand(self):
        seen = []
        for one, other in some_two_worlds():
            reached = rank(one, other, [])
            if reached is not None and reached < 5:
                self.wins_within(one, other, [], reached)
                seen.append(reached)
        self.assertEqual(set(seen), {1, 2, 3, 4})

    def holds_for(self, one, other, pairs, rounds):
        """The second hand's told replies keep the pairs fitting, whatever is pointed at."""
        self.assertIs(fits(one, other, pairs), True)
        if rounds > 0:
            for side, world in enumerate((one, other)):
                for thing in range(world.size):
                    replied = reply(one, other, pairs, side, thing)
                    self.holds_for(one, other, with_new(pairs, side, thing, replied), rounds - 1)

    def test_the_second_hand(self):
        for one, other in some_two_worlds():
            reached = rank(one, other, [])
            self.holds_for(one, other, [], min(2, 2 if reached is None else reached - 1))

    def holds_by_dice(self, dice, one, other, rounds):
        pairs = []
        for turn in range(rounds):
            side = dice.choice([side for side in (0, 1) if (one, other)[side].size > 0])
            thing = dice.randrange((one, other)[side].size)
            pairs = with_new(pairs, side, thing, reply(one, other, pairs, side, thing))
            self.assertIs(fits(one, other, pairs), True)
        return pairs

    def test_the_second_hand_up_to_the_rank(self):
        dice = random.Random(57)
        for one, other in some_two_worlds():
            reached = rank(one, other, [])
            if reached is not None:
                self.holds_by_dice(dice, one, other, reached - 1)

    def test_the_second_hand_for_ever(self):
        dice = random.Random(54)
        for turn in range(40):
            one = some_world(dice, 1 + turn % 5, [], ["near"], 0.2)
            other = turned(one, dice.sample(range(one.size), one.size))
            self.assertIsNone(rank(one, other, self.holds_by_dice(dice, one, other, 9)))

    def test_the_hands_against_one_another(self):
        for one, other in some_two_worlds():
            pairs = []
            for left in range(rank(one, other, []) or 0, 0, -1):
                self.assertEqual(rank(one, other, pairs), left)
                side, thing = pointing(one, other, pairs)
                replied = reply(one, other, pairs, side, thing)
                self.assertEqual(replied is None, (other, one)[side].size == 0)
                if replied is not None:
                    pairs = with_new(pairs, side, thing, replied)
            if min(one.size, other.size) > 0:
                self.assertEqual(fits(one, other, pairs), matching(one, other, []) is not None)

    def test_groups_and_what_parts_two_things(self):
        dice = random.Random(55)
        for turn in range(40):
            world = some_world(dice, 1 + turn % 5, ["red"][:turn % 2], ["near"], [0.1, 0.3][turn % 4 // 2])
            told = {pair: telling(world, world, [pair]) for pair in itertools.product(range(world.size), repeat=2)}
            for count in (0, 1, 2, 3, 60):
                home = {thing: at for at, group in enumerate(groups(world, count)) for thing in group}
                for one, other in told:
                    apart = told[(one, other)] is not None and depth(told[(one, other)]) <= count
                    self.assertEqual(home[one] != home[other], apart)
                    if not apart and count < 4:
                        saying = some_saying(dice, "a", count, 5, [], ["near"])
                        self.assertEqual(is_so(world, saying, {"a": one}), is_so(world, saying, {"a": other}))

    def test_no_lesser_saying_parts_what_lasts(self):
        dice = random.Random(56)
        asked = 0
        for one, other, pairs in some_cases(dice, 600):
            reached = rank(one, other, pairs)
            if pairs and reached != 0 and one.tie_words():
                most = 3 if reached is None else min(3, reached - 1)
                letters = "".join(places_of(pairs, 0))
                for turn in range(5):
                    saying = some_saying(dice, letters, most, 5, one.mark_words(), one.tie_words())
                    self.assertEqual(is_so(one, saying, places_of(pairs, 0)), is_so(other, saying, places_of(pairs, 1)))
                    asked += 1
        self.assertGreater(asked, 300)


if __name__ == "__main__":
    unittest.main()
