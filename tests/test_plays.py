import copy
import itertools
import random
import unittest

from tests.helpers import HUGE, Refusals, full_world, ordered, some_cases, some_world, told_whole, turned
from twinrounds.errors import NoPointing, NoThing, RoundError, TooGreat, Unlike
from twinrounds.hands import pointing, reply
from twinrounds.matchings import fits
from twinrounds.plays import Play
from twinrounds.rounds import rank
from twinrounds.worlds import World

SIXTH = {"number": 6, "most": 5}


def counted(told):
    return 100 if told is None else told


def asked(play):
    """What the play points at, or the class of what it refuses with."""
    try:
        return play.ask()
    except RoundError as error:
        return error.__class__


def told_by(play):
    """All that a play tells."""
    return play.pairs(), play.fits(), play.rank(), asked(play)


class Checks(Refusals):
    def stands_at(self, play, one, other, pairs):
        """Holds all that the play tells against what the functions tell of its worlds and pairs."""
        self.assertEqual(play.pairs(), pairs)
        self.assertIs(play.pairs().__class__, list)
        for pair in play.pairs():
            self.assertIs(pair.__class__, tuple)
            self.assertEqual([thing.__class__ for thing in pair], [int, int])
        self.assertIs(play.fits(), fits(one, other, pairs))
        reached = rank(one, other, pairs)
        self.assertEqual(play.rank(), reached)
        self.assertIs(play.rank().__class__, reached.__class__)
        self.asks_at(play, one, other, pairs, counted(reached))

    def asks_at(self, play, one, other, pairs, reached):
        if len(pairs) == 5:
            self.refused(TooGreat, SIXTH, play.ask)
        elif reached in (0, 100):
            self.refused(NoPointing, {}, play.ask)
        else:
            told = play.ask()
            self.assertIs(told.__class__, tuple)
            self.assertIn(told[0], (0, 1))
            self.assertIn(told[1], range((one, other)[told[0]].size))
            for replied in range((other, one)[told[0]].size):
                new = (told[1], replied) if told[0] == 0 else (replied, told[1])
                self.assertLess(counted(rank(one, other, pairs + [new])), reached)
            self.assertEqual(play.ask(), told)

    def points(self, play, one, other, side, thing):
        """Points, and tells the pairs that the play has to have behind it."""
        pairs = play.pairs()
        told = play.point(side, thing)
        replies = range((other, one)[side].size)
        if not replies:
            self.assertIsNone(told)
            return pairs
        new = [(thing, replied) if side == 0 else (replied, thing) for replied in replies]
        behind = [counted(rank(one, other, pairs + [pair])) for pair in new]
        self.assertIs(told.__class__, int)
        self.assertEqual(behind[told], max(behind))
        return pairs + [new[told]]

    def answers(self, play, one, other, thing):
        pairs = play.pairs()
        side, pointed = play.ask()
        told = play.answer(thing)
        pairs.append((pointed, thing) if side == 0 else (thing, pointed))
        self.assertEqual(told, rank(one, other, pairs))
        return pairs


class Plays(Checks):
    def test_begins_without_pairs(self):
        one, other = World(2, {"red": [0]}, {}), World(3, {"red": [2]}, {})
        self.stands_at(Play(one, other), one, other, [])
        self.stands_at(Play(one, one), one, one, [])

    def test_by_hand(self):
        one, other = World(3, {}, {}), World(2, {}, {})
        play = Play(one, other)
        self.assertEqual((play.pairs(), play.fits(), play.rank()), ([], True, 3))
        first = play.point(0, 1)
        self.assertEqual((play.pairs(), play.fits(), play.rank()), ([(1, first)], True, 2))
        self.assertEqual(play.point(1, first), 1)
        self.assertEqual((play.pairs(), play.fits(), play.rank()), ([(1, first), (1, first)], True, 2))
        self.assertEqual(play.ask()[0], 0)
        pointed = play.ask()[1]
        self.assertIn(pointed, (0, 2))
        self.assertEqual(play.answer(1 - first), 1)
        left = 2 - pointed
        self.assertEqual(play.pairs()[2], (pointed, 1 - first))
        self.assertEqual(play.ask(), (0, left))
        self.assertEqual(play.answer(first), 0)
        self.assertEqual(play.pairs(), [(1, first), (1, first), (pointed, 1 - first), (left, first)])
        self.assertEqual((play.fits(), play.rank()), (False, 0))
        self.refused(NoPointing, {}, play.ask)

    def test_the_first_world_s_thing_is_first(self):
        one, other = World(1, {"red": [0]}, {}), World(3, {"red": [2]}, {})
        play = Play(one, other)
        self.assertEqual(play.point(0, 0), 2)
        self.assertEqual(play.point(1, 2), 0)
        self.assertEqual(play.pairs(), [(0, 2), (0, 2)])
        self.assertEqual(play.point(1, 1), 0)
        self.assertEqual(play.pairs(), [(0, 2), (0, 2), (0, 1)])
        one, other = World(2, {"red": [0]}, {}), World(3, {"red": []}, {})
        answered = Play(one, other)
        self.assertEqual(answered.ask(), (0, 0))
        self.assertEqual(answered.answer(1), 0)
        self.assertEqual(answered.pairs(), [(0, 1)])
        crossed = Play(other, one)
        self.assertEqual(crossed.ask(), (1, 0))
        self.assertEqual(crossed.answer(2), 0)
        self.assertEqual(crossed.pairs(), [(2, 0)])

    def test_in_drawn_order(self):
        dice = random.Random(41)
        put = {"point": 0, "answer": 0}
        for one, other, pairs in some_cases(dice, 300):
            play = Play(one, other)
            held = []
            for turn in range(8):
                self.stands_at(play, one, other, held)
                pointed = asked(play)
                side = dice.randrange(2)
                if pointed.__class__ is tuple and (other, one)[pointed[0]].size > 0 and dice.random() < 0.6:
                    held = self.answers(play, one, other, dice.randrange((other, one)[pointed[0]].size))
                    put["answer"] += 1
                elif len(held) < 5 and (one, other)[side].size > 0:
                    held = self.points(play, one, other, side, dice.randrange((one, other)[side].size))
                    put["point"] += 1
            self.stands_at(play, one, other, held)
        self.assertGreater(min(put.values()), 100, put)

    def test_by_the_functions(self):
        dice = random.Random(42)
        for one, other, pairs in some_cases(dice, 120):
            play = Play(one, other)
            for turn in range(5):
                if counted(play.rank()) not in (0, 100):
                    self.assertEqual(play.ask(), pointing(one, other, play.pairs()))
                if one.size > 0:
                    thing = dice.randrange(one.size)
                    told = reply(one, other, play.pairs(), 0, thing)
                    self.assertEqual(play.point(0, thing), told)

    def test_a_pair_that_does_not_fit(self):
        one, other = World(2, {"red": [0]}, {}), World(2, {"red": []}, {})
        play = Play(one, other)
        self.assertEqual(play.answer(1), 0)
        self.stands_at(play, one, other, [(0, 1)])
        # Pairs may be put all the same.
        held = [(0, 1)]
        for side, thing in ((0, 1), (1, 0), (0, 0), (1, 1)):
            held = self.points(play, one, other, side, thing)
            self.stands_at(play, one, other, held)
        self.assertEqual(len(held), 5)

    def test_no_reply(self):
        bare, world = full_world(0, False, False), full_world(3, True, False)
        for one, other, side in ((world, bare, 0), (bare, world, 1)):
            play = Play(one, other)
            first = play.ask()
            for turn in range(7):
                self.assertIsNone(play.point(side, turn % 3))
                self.stands_at(play, one, other, [])
                self.assertEqual(play.ask(), first)
            self.assertEqual(first[0], side)
            for thing in (0, 1, -1, HUGE):
                self.no_thing(thing, play.answer, thing)
            self.stands_at(play, one, other, [])

    def test_worlds_without_things(self):
        bare = World(0, {}, {})
        self.stands_at(Play(bare, bare), bare, bare, [])

    def test_worlds_with_a_matching(self):
        dice = random.Random(43)
        for turn in range(30):
            one = some_world(dice, 1 + turn % 5, share=0.2)
            other = turned(one, dice.sample(range(one.size), one.size))
            play = Play(one, other)
            for thing in range(5):
                side = dice.randrange(2)
                play.point(side, thing % one.size)
                self.assertIs(play.fits(), True)
                self.assertIsNone(play.rank())
            self.stands_at(play, one, other, play.pairs())

    def test_the_own_pointing_wins_in_time(self):
        one, other = ordered(4), ordered(5)
        self.assertEqual(rank(one, other, []), 3)
        for answers in itertools.product(range(5), repeat=3):
            play = Play(one, other)
            for thing in answers:
                if play.rank() > 0:
                    ahead = play.rank()
                    size = (other, one)[play.ask()[0]].size
                    self.assertLess(play.answer(thing % size), ahead)
            self.assertEqual(play.rank(), 0)

    def test_ask_stays_till_a_pair_is_put(self):
        one, other = World(4, {"red": [0, 1]}, {}), World(5, {"red": [3, 4]}, {})
        play = Play(one, other)
        first = play.ask()
        for turn in range(3):
            self.assertEqual(play.ask(), first)
            play.pairs(), play.fits(), play.rank()
            self.refused(NoThing, {"thing": 9}, play.point, 0, 9)
            self.refused(NoThing, {"thing": -1}, play.answer, -1)
        self.assertEqual(play.ask(), first)
        self.assertEqual(play.pairs(), [])

    def test_ask_behind_a_point(self):
        one, other = World(2, {}, {}), World(3, {}, {})
        play = Play(one, other)
        side, thing = play.ask()
        told = play.point(side, thing)
        new = (thing, told) if side == 0 else (told, thing)
        # The thing that was pointed at is one of a pair now, so that the pointing can't be the same.
        self.assertNotEqual(play.ask(), (side, thing))
        self.stands_at(play, one, other, [new])
        # The answer is put to the new pointing, not to the one that was told ahead of the point.
        held = self.answers(play, one, other, 0)
        self.stands_at(play, one, other, held)
        self.assertEqual(held[0], new)

    def test_answer_without_asking(self):
        for one, other, pairs in some_cases(random.Random(44), 200):
            asking, silent = Play(one, other), Play(one, other)
            if asked(asking).__class__ is tuple and min(one.size, other.size) > 0:
                asking.ask()
                self.assertEqual(silent.answer(0), asking.answer(0))
                self.assertEqual(silent.pairs(), asking.pairs())

    def test_the_told_pairs_are_the_asker_s_own(self):
        one, other = World(3, {}, {}), World(2, {}, {})
        play = Play(one, other)
        play.point(0, 0)
        told, ahead = play.pairs(), told_by(play)
        held = play.pairs()
        told.append((0, 1))
        told[0] = (2, 2)
        self.assertEqual(told_by(play), ahead)
        told.clear()
        self.assertEqual(told_by(play), ahead)
        play.point(0, 1)
        self.assertEqual(len(held), 1)
        self.assertEqual(len(play.pairs()), 2)

    def test_two_plays_side_by_side(self):
        one, other = World(4, {"red": [0]}, {"near": [(0, 1)]}), World(4, {"red": [0]}, {"near": [(1, 0)]})
        first, second, crossed = Play(one, other), Play(one, other), Play(other, one)
        fresh = told_by(second), told_by(crossed)
        first.point(0, 0)
        self.assertEqual((told_by(second), told_by(crossed)), fresh)
        first.point(1, 2)
        second.point(1, 2)
        held = told_by(first)
        for turn in range(4):
            second.point(0, turn)
        self.assertEqual(told_by(first), held)
        self.stands_at(first, one, other, held[0])
        self.stands_at(second, one, other, second.pairs())
        self.stands_at(crossed, other, one, [])
        self.assertEqual((len(first.pairs()), len(second.pairs())), (2, 5))

    def test_the_same_moves_are_told_the_same(self):
        dice = random.Random(45)
        for one, other, pairs in some_cases(dice, 60):
            moves = [(side, dice.randrange(5)) for side in (0, 1, 1, 0, 1)]
            told = []
            for turn in range(2):
                play, seen = Play(one, other), []
                for side, thing in moves:
                    if thing < (one, other)[side].size:
                        seen.append((play.point(side, thing), told_by(play)))
                told.append(seen)
            self.assertEqual(told[0], told[1])

    def test_nothing_handed_in_is_changed(self):
        one, other = World(3, {"red": [0]}, {"near": [(0, 1)]}), World(4, {"red": [0]}, {"near": [(2, 1)]})
        ahead = copy.deepcopy((told_whole(one), told_whole(other)))
        play = Play(one, other)
        play.point(0, 1)
        play.answer(0)
        told_by(play)
        self.assertEqual((told_whole(one), told_whole(other)), ahead)


class Refused(Checks):
    def full_play(self, one, other):
        """A play of five pairs that all are the same, so that it still fits."""
        play = Play(one, other)
        for turn in range(5):
            play.point(0, 0)
        return play

    def is_as_it_was(self, play, error, fields, call, *handed):
        ahead = told_by(play)
        for turn in range(2):
            self.refused(error, fields, call, *handed)
            self.assertEqual(told_by(play), ahead)
        for above in (RoundError, ValueError):
            with self.assertRaises(above):
                call(*handed)

    def test_unlike(self):
        world = World(2, {"red": [0]}, {"near": []})
        for unlike in (World(2, {}, {"near": []}), World(2, {"red": [0]}, {}), World(2, {"near": []}, {"red": []}),
                       World(2, {"wet": [0]}, {"near": []}), World(0, {"red": [], "wet": []}, {"near": []}),
                       World(5, {"red": []}, {"near": [], "by": []})):
            self.refused(Unlike, {}, Play, world, unlike)
            self.refused(Unlike, {}, Play, unlike, world)
            for above in (RoundError, ValueError):
                with self.assertRaises(above):
                    Play(world, unlike)

    def test_point_at_no_thing(self):
        for sizes in itertools.product(range(6), range(6)):
            one, other = [World(size, {}, {}) for size in sizes]
            play = Play(one, other)
            for side in (0, 1):
                for thing in (sizes[side], -1, HUGE, -HUGE):
                    self.is_as_it_was(play, NoThing, {"thing": thing}, play.point, side, thing)
                if sizes[1 - side] > sizes[side]:
                    self.no_thing(sizes[1 - side] - 1, play.point, side, sizes[1 - side] - 1)

    def test_a_sixth_pair(self):
        for sizes in ((5, 5), (5, 4), (1, 5), (3, 2)):
            one, other = [World(size, {}, {}) for size in sizes]
            play = self.full_play(one, other)
            self.assertEqual(len(play.pairs()), 5)
            self.stands_at(play, one, other, play.pairs())
            for side, thing in itertools.product((0, 1), (0, 5, -1, HUGE)):
                self.is_as_it_was(play, TooGreat, SIXTH, play.point, side, thing)
            self.is_as_it_was(play, TooGreat, SIXTH, play.ask)
            for thing in (0, 1, 5, -1, HUGE):
                self.is_as_it_was(play, TooGreat, SIXTH, play.answer, thing)

    def test_the_fifth_pair_is_put(self):
        one, other = World(5, {}, {}), World(4, {}, {})
        for last in ("point", "answer"):
            play = Play(one, other)
            for turn in range(4):
                play.point(0, 0)
            self.assertEqual(play.rank(), 4)
            if last == "point":
                self.assertIsNotNone(play.point(1, 3))
            else:
                self.assertIsNotNone(play.answer(3))
            self.assertEqual(len(play.pairs()), 5)
            self.stands_at(play, one, other, play.pairs())

    def test_a_sixth_pair_where_the_pairs_do_not_fit(self):
        one, other = World(2, {"red": [0]}, {}), World(1, {"red": []}, {})
        play = self.full_play(one, other)
        self.assertIs(play.fits(), False)
        self.is_as_it_was(play, TooGreat, SIXTH, play.ask)
        self.is_as_it_was(play, TooGreat, SIXTH, play.answer, 0)
        self.is_as_it_was(play, TooGreat, SIXTH, play.point, 1, 9)

    def test_no_pointing(self):
        one = World(2, {"red": [0]}, {})
        play = Play(one, one)
        # At rank None, and then at rank 0.
        self.is_as_it_was(play, NoPointing, {}, play.ask)
        for thing in (0, 2, -1, HUGE):
            self.is_as_it_was(play, NoPointing, {}, play.answer, thing)
        play = Play(one, World(2, {"red": []}, {}))
        play.answer(0)
        self.assertEqual(play.rank(), 0)
        self.is_as_it_was(play, NoPointing, {}, play.ask)
        for thing in (0, 2, -1, HUGE):
            self.is_as_it_was(play, NoPointing, {}, play.answer, thing)

    def test_answer_with_no_thing(self):
        for sizes in itertools.product(range(6), range(6)):
            one, other = [World(size, {}, {}) for size in sizes]
            if one.size != other.size:
                play = Play(one, other)
                for turn in range(2):
                    if counted(play.rank()) in (0, 100):
                        break
                    size = (other, one)[play.ask()[0]].size
                    for thing in (size, -1, HUGE, -HUGE):
                        self.is_as_it_was(play, NoThing, {"thing": thing}, play.answer, thing)
                    if size > 0:
                        play.answer(size - 1)


if __name__ == "__main__":
    unittest.main()
