import copy
import itertools
import unittest

from tests.helpers import HUGE, Refusals, told_whole
from twinrounds.errors import NoWord, TooGreat
from twinrounds.worlds import World

KEPT = ["not", "and", "or", "some", "all"]
NO_WORDS = KEPT + ["", "abcdefghi", "Red", "rED", "R", "red1", "1", "re d", " red", "red ", " ", "re_d",
                   "re-d", "red(", "~", "a`", "a{", "re.d", "z" * 60]
WORDS = ["a", "z", "abcdefgh", "zzzzzzzz", "nor", "nots", "no", "ot", "ands", "an", "nd", "ors", "o", "r",
         "somes", "som", "ome", "alls", "al", "ll", "any", "in", "if", "mark", "tie", "same", "both", "either"]


class Checks(Refusals):
    def no_word(self, word, call, *handed):
        self.refused(NoWord, {"word": word}, call, *handed)

    def too_great(self, number, most, call, *handed):
        self.refused(TooGreat, {"number": number, "most": most}, call, *handed)

    def is_as_made(self, world, size, marks, ties):
        self.assertEqual(world.size, size)
        self.assertEqual(world.mark_words(), sorted(marks))
        self.assertEqual(world.tie_words(), sorted(ties))
        for word, thing in itertools.product(marks, range(size)):
            self.assertIs(world.has(word, thing), thing in marks[word])
        for word, one, other in itertools.product(ties, range(size), range(size)):
            self.assertIs(world.leads(word, one, other), (one, other) in ties[word])


class Ordinary(Checks):
    def test_sizes_without_words(self):
        for size in range(6):
            self.is_as_made(World(size, {}, {}), size, {}, {})

    def test_each_count_of_words(self):
        for size, count, other in itertools.product(range(6), range(4), range(4)):
            marks = {word: [thing for thing in range(size) if (thing + at) % 3 == 0]
                     for at, word in enumerate(["wet", "red", "big"][:count])}
            ties = {word: [(one, to) for one in range(size) for to in range(size) if (2 * one + to + at) % 4 == 0]
                    for at, word in enumerate(["under", "near", "by"][:other])}
            self.is_as_made(World(size, marks, ties), size, marks, ties)

    def test_marks_on_none_and_on_all(self):
        marks = {"none": [], "every": [0, 1, 2, 3, 4]}
        ties = {"never": [], "ever": list(itertools.product(range(5), range(5)))}
        self.is_as_made(World(5, marks, ties), 5, marks, ties)

    def test_what_stands_twice_is_there_once(self):
        marks = {"red": [2, 0, 2, 2, 0]}
        ties = {"near": [(1, 2), (1, 2), (0, 0), (1, 2), (0, 0)]}
        self.is_as_made(World(3, marks, ties), 3, marks, ties)

    def test_a_tie_to_itself_and_one_way_only(self):
        world = World(3, {}, {"near": [(1, 1), (0, 2)]})
        self.assertIs(world.leads("near", 1, 1), True)
        self.assertIs(world.leads("near", 0, 0), False)
        self.assertIs(world.leads("near", 0, 2), True)
        self.assertIs(world.leads("near", 2, 0), False)

    def test_words_in_the_letters_order(self):
        world = World(1, {"zb": [], "b": [], "ab": []}, {"ba": [], "a": [], "aa": []})
        self.assertEqual(world.mark_words(), ["ab", "b", "zb"])
        self.assertEqual(world.tie_words(), ["a", "aa", "ba"])

    def test_every_small_world_of_one_mark_and_one_tie(self):
        pairs = list(itertools.product(range(2), range(2)))
        for on in itertools.product([False, True], repeat=2):
            for led in itertools.product([False, True], repeat=4):
                marks = {"m": [thing for thing in range(2) if on[thing]]}
                ties = {"t": [pair for at, pair in enumerate(pairs) if led[at]]}
                self.is_as_made(World(2, marks, ties), 2, marks, ties)


class Apart(Checks):
    def test_what_it_is_made_of_stays_as_it_was(self):
        marks = {"wet": [2, 0, 2], "red": []}
        ties = {"near": [(1, 2), (1, 2), (0, 0)], "by": []}
        ahead = copy.deepcopy((marks, ties))
        World(3, marks, ties)
        self.assertEqual((marks, ties), ahead)
        self.assertEqual((list(marks), list(ties)), (["wet", "red"], ["near", "by"]))

    def test_a_later_change_of_the_dicts_and_lists(self):
        marks = {"red": [0], "wet": []}
        ties = {"near": [(0, 1)], "by": []}
        ahead = copy.deepcopy((marks, ties))
        world = World(2, marks, ties)
        marks["red"].append(1)
        marks["wet"] = [0, 1]
        marks["new"] = [0]
        ties["near"].clear()
        ties["by"].append((1, 1))
        ties.pop("near")
        self.is_as_made(world, 2, ahead[0], ahead[1])
        self.no_word("new", world.has, "new", 0)

    def test_a_change_of_the_told_lists(self):
        world = World(2, {"red": [0]}, {"near": [(0, 1)]})
        for told in (world.mark_words(), world.tie_words()):
            told.append("more")
            told.insert(0, "ahead")
        self.is_as_made(world, 2, {"red": [0]}, {"near": [(0, 1)]})

    def test_what_was_told_stays_behind_more_asking(self):
        world = World(2, {"red": [0], "big": []}, {"near": [(0, 1)]})
        told = (world.mark_words(), world.tie_words())
        world.mark_words().reverse()
        World(1, {"b": []}, {"a": []})
        self.assertEqual(told, (["big", "red"], ["near"]))

    def test_another_world_changes_nothing(self):
        lists = ({"red": [0]}, {"near": [(0, 1)]})
        world = World(2, *lists)
        ahead = told_whole(world)
        World(3, {"red": [1, 2], "wet": [0]}, {"near": [(2, 2)], "by": []})
        World(2, *lists)
        self.assertEqual(told_whole(world), ahead)

    def test_a_refused_asking_changes_nothing(self):
        world = World(2, {"red": [0]}, {"near": [(0, 1)]})
        ahead = told_whole(world)
        self.no_word("wet", world.has, "wet", 0)
        self.no_thing(2, world.has, "red", 2)
        self.no_thing(-1, world.leads, "near", 0, -1)
        self.assertEqual(told_whole(world), ahead)

    def test_a_good_world_is_made_behind_a_refusal(self):
        marks, ties = {"red": [0, 1]}, {"near": [(0, 7)]}
        self.no_thing(7, World, 2, marks, ties)
        self.assertEqual((marks, ties), ({"red": [0, 1]}, {"near": [(0, 7)]}))
        self.is_as_made(World(2, marks, {"near": [(0, 1)]}), 2, marks, {"near": [(0, 1)]})


class Words(Checks):
    def test_words_that_are_words(self):
        for word in WORDS:
            self.is_as_made(World(1, {word: [0]}, {}), 1, {word: [0]}, {})
            self.is_as_made(World(1, {}, {word: [(0, 0)]}), 1, {}, {word: [(0, 0)]})

    def test_every_letter_and_every_length(self):
        for letter in "abcdefghijklmnopqrstuvwxyz":
            for length in range(1, 9):
                self.assertEqual(World(0, {letter * length: []}, {}).mark_words(), [letter * length])

    def test_texts_that_are_no_words(self):
        for text in NO_WORDS:
            self.no_word(text, World, 1, {text: []}, {})
            self.no_word(text, World, 1, {}, {text: []})

    def test_every_other_sign(self):
        for sign in map(chr, range(32, 127)):
            if not "a" <= sign <= "z":
                for text in (sign, sign + "a", "a" + sign, "ab" + sign + "c"):
                    self.no_word(text, World, 1, {text: [0]}, {})
                    self.no_word(text, World, 1, {}, {text: [(0, 0)]})

    def test_one_word_for_both(self):
        self.no_word("red", World, 1, {"wet": [], "red": []}, {"near": [], "red": []})
        self.no_word("red", World, 1, {"red": [0]}, {"red": [(0, 0)]})


class Refused(Checks):
    def test_a_size_above_five(self):
        for size in (6, 7, 100, HUGE):
            self.too_great(size, 5, World, size, {}, {})

    def test_a_fourth_word(self):
        for count in (4, 5, 9):
            words = {letter: [] for letter in "abcdefghi"[:count]}
            self.too_great(count, 3, World, 2, words, {})
            self.too_great(count, 3, World, 2, {}, words)

    def test_things_that_are_none_in_marks(self):
        for size in range(6):
            for thing in (size, size + 1, -1, -size - 1, HUGE, -HUGE):
                for at in range(size + 1):
                    things = list(range(size))
                    things.insert(at, thing)
                    self.no_thing(thing, World, size, {"red": things}, {})

    def test_things_that_are_none_in_ties(self):
        for size in range(1, 6):
            for thing in (size, size + 1, -1, -size, HUGE, -HUGE):
                for pair in ((thing, 0), (0, thing), (thing, thing)):
                    for at in range(3):
                        pairs = [(0, 0), (size - 1, 0)]
                        pairs.insert(at, pair)
                        self.no_thing(thing, World, size, {"red": [0]}, {"near": pairs})

    def test_a_world_without_things_has_none(self):
        self.no_thing(0, World, 0, {"red": [0]}, {})
        self.no_thing(0, World, 0, {}, {"near": [(0, 0)]})

    def test_the_first_of_a_list(self):
        self.no_thing(4, World, 3, {"red": [0, 4, -1, 3]}, {})
        self.no_thing(-2, World, 3, {}, {"near": [(0, 1), (-2, 9), (7, 8)]})
        self.no_thing(9, World, 3, {}, {"near": [(0, 1), (2, 9), (-7, 8)]})


class TwoFaults(Checks):
    four = {"a": [], "b": [], "c": [], "d": []}
    five = {"e": [], "f": [], "g": [], "h": [], "i": []}

    def test_the_size_comes_first(self):
        self.too_great(6, 5, World, 6, self.four, {})
        self.too_great(6, 5, World, 6, {}, self.four)
        self.too_great(6, 5, World, 6, {"Red": [9]}, {"Near": [(9, 9)]})

    def test_the_counts_come_next(self):
        self.too_great(4, 3, World, 2, self.four, self.five)
        self.too_great(5, 3, World, 2, self.five, self.four)
        self.too_great(4, 3, World, 2, {"a": [], "b": [], "c": [], "D": [9]}, {})
        self.too_great(5, 3, World, 2, {"Red": [9]}, self.five)
        self.too_great(5, 3, World, 2, {"red": [9]}, self.five)

    def test_a_word_comes_ahead_of_its_things(self):
        self.no_word("Red", World, 2, {"Red": [9]}, {})
        self.no_word("Near", World, 2, {}, {"Near": [(9, 9)]})
        self.no_word("red", World, 2, {"red": []}, {"red": [(9, 9)]})

    def test_word_by_word_as_the_dict_is_walked(self):
        self.no_thing(9, World, 2, {"red": [9], "Wet": []}, {})
        self.no_word("Wet", World, 2, {"Wet": [], "red": [9]}, {})
        self.no_word("or", World, 2, {"red": [], "or": [8], "A": [9]}, {})
        self.no_thing(9, World, 2, {}, {"near": [(0, 9)], "By": []})
        self.no_word("By", World, 2, {}, {"By": [], "near": [(0, 9)]})
        self.no_thing(8, World, 2, {"z": [8], "a": [9]}, {})
        self.no_thing(8, World, 2, {}, {"z": [(0, 8)], "a": [(9, 0)]})

    def test_marks_come_ahead_of_ties(self):
        self.no_thing(9, World, 2, {"red": [9]}, {"Near": [(8, 8)]})
        self.no_thing(9, World, 2, {"red": [9]}, {"red": []})
        self.no_word("Red", World, 2, {"Red": []}, {"near": [(8, 8)]})
        self.no_word("Red", World, 2, {"Red": []}, {"Near": []})

    def test_a_mark_s_word_in_its_turn_among_the_ties(self):
        self.no_thing(8, World, 2, {"red": []}, {"near": [(8, 0)], "red": []})
        self.no_word("red", World, 2, {"red": []}, {"red": [], "Near": []})
        self.no_word("Near", World, 2, {"red": []}, {"Near": [], "red": []})

    def test_the_first_of_a_pair_comes_ahead_of_the_second(self):
        self.no_thing(-1, World, 2, {}, {"near": [(-1, 9)]})
        self.no_thing(9, World, 2, {}, {"near": [(9, -1)]})
        self.no_thing(5, World, 2, {}, {"near": [(0, 5), (6, 0)]})


class Asking(Checks):
    def setUp(self):
        self.world = World(3, {"red": [0], "wet": [0, 1, 2]}, {"near": [(0, 1), (2, 2)]})

    def test_has_with_no_word_of_a_mark(self):
        for word in ["blue", "near", "re", "redd"] + NO_WORDS:
            self.no_word(word, self.world.has, word, 0)
            self.no_word(word, self.world.has, word, 3)

    def test_leads_with_no_word_of_a_tie(self):
        for word in ["by", "red", "nea", "nearr"] + NO_WORDS:
            self.no_word(word, self.world.leads, word, 0, 0)
            self.no_word(word, self.world.leads, word, 3, -1)

    def test_has_of_what_is_no_thing(self):
        for thing in (3, 4, -1, -3, HUGE, -HUGE):
            self.no_thing(thing, self.world.has, "red", thing)
            self.no_thing(thing, self.world.has, "wet", thing)

    def test_leads_of_what_is_no_thing(self):
        for thing in (3, 4, -1, -3, HUGE, -HUGE):
            for good in range(3):
                self.no_thing(thing, self.world.leads, "near", thing, good)
                self.no_thing(thing, self.world.leads, "near", good, thing)
            self.no_thing(thing, self.world.leads, "near", thing, -9)
            self.no_thing(-9, self.world.leads, "near", -9, thing)

    def test_a_world_without_things(self):
        world = World(0, {"red": []}, {"near": []})
        self.no_thing(0, world.has, "red", 0)
        self.no_thing(0, world.leads, "near", 0, 0)


if __name__ == "__main__":
    unittest.main()
