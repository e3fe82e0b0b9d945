import copy
import itertools
import random
import unittest

from tests.helpers import HUGE, halves, some_saying, some_world, wrapped
from twinrounds.errors import NoName, NoThing, NoWord
from twinrounds.sayings import depth, free_names, is_so, parts
from twinrounds.worlds import World

RED_X = ("mark", "red", "x")
NEAR_XY = ("tie", "near", "x", "y")
SAME_XY = ("same", "x", "y")


def slow_is_so(world, saying, places):
    """Word by word what the document tells of the eight sorts."""
    sort = saying[0]
    if sort == "mark":
        return world.has(saying[1], places[saying[2]])
    if sort == "tie":
        return world.leads(saying[1], places[saying[2]], places[saying[3]])
    if sort == "same":
        return places[saying[1]] == places[saying[2]]
    if sort == "not":
        return not slow_is_so(world, saying[1], places)
    if sort == "both":
        return slow_is_so(world, saying[1], places) and slow_is_so(world, saying[2], places)
    if sort == "either":
        return slow_is_so(world, saying[1], places) or slow_is_so(world, saying[2], places)
    answers = [slow_is_so(world, saying[2], {**places, saying[1]: thing}) for thing in range(world.size)]
    return any(answers) if sort == "some" else all(answers)


class Counting(unittest.TestCase):
    def is_counted(self, saying, deep, names, many):
        self.assertEqual((depth(saying), free_names(saying), parts(saying)), (deep, names, many))
        for told in (depth(saying), parts(saying)):
            self.assertIs(told.__class__, int)
        self.assertIs(free_names(saying).__class__, list)

    def test_facts(self):
        self.is_counted(RED_X, 0, ["x"], 1)
        self.is_counted(NEAR_XY, 0, ["x", "y"], 1)
        self.is_counted(("tie", "near", "y", "x"), 0, ["x", "y"], 1)
        self.is_counted(("tie", "near", "z", "z"), 0, ["z"], 1)
        self.is_counted(SAME_XY, 0, ["x", "y"], 1)
        self.is_counted(("same", "b", "a"), 0, ["a", "b"], 1)
        self.is_counted(("same", "x", "x"), 0, ["x"], 1)

    def test_a_word_is_no_name(self):
        self.is_counted(("mark", "a", "b"), 0, ["b"], 1)
        self.is_counted(("tie", "a", "c", "b"), 0, ["b", "c"], 1)

    def test_words_called_like_sorts(self):
        self.is_counted(("mark", "same", "x"), 0, ["x"], 1)
        self.is_counted(("tie", "mark", "x", "y"), 0, ["x", "y"], 1)
        self.is_counted(("some", "x", ("mark", "both", "x")), 1, [], 2)

    def test_not_both_either(self):
        self.is_counted(("not", RED_X), 0, ["x"], 2)
        for sort in ("both", "either"):
            self.is_counted((sort, RED_X, NEAR_XY), 0, ["x", "y"], 3)
            self.is_counted((sort, ("not", ("mark", "red", "z")), (sort, RED_X, RED_X)), 0, ["x", "z"], 6)

    def test_some_and_all(self):
        for sort in ("some", "all"):
            self.is_counted((sort, "x", RED_X), 1, [], 2)
            self.is_counted((sort, "y", RED_X), 1, ["x"], 2)
            self.is_counted((sort, "x", NEAR_XY), 1, ["y"], 2)
            self.is_counted((sort, "y", (sort, "x", NEAR_XY)), 2, [], 3)
            self.is_counted((sort, "x", (sort, "x", NEAR_XY)), 2, ["y"], 3)

    def test_the_deeper_side_counts(self):
        flat, deep = ("some", "x", RED_X), ("all", "x", ("not", ("some", "y", NEAR_XY)))
        for sort in ("both", "either"):
            self.is_counted((sort, flat, deep), 2, [], 7)
            self.is_counted((sort, deep, flat), 2, [], 7)
            self.is_counted(("all", "z", (sort, RED_X, deep)), 3, ["x"], 7)

    def test_a_name_bound_and_free_in_one_saying(self):
        bound = ("some", "x", RED_X)
        for sort in ("both", "either"):
            self.is_counted((sort, bound, RED_X), 1, ["x"], 4)
            self.is_counted((sort, RED_X, bound), 1, ["x"], 4)
            self.is_counted(("all", "x", (sort, RED_X, bound)), 2, [], 5)

    def test_the_letters_order_each_once(self):
        facts = [("mark", "red", name) for name in "qwertyuiopasdfghjklzxcvbnmqaz"]
        self.is_counted(halves("both", facts), 0, list("abcdefghijklmnopqrstuvwxyz"), 57)

    def test_a_part_that_stands_twice_counts_twice(self):
        saying = RED_X
        for turn in range(10):
            saying = ("both", saying, saying)
        self.is_counted(saying, 0, ["x"], 2047)

    def test_sixty_within_one_another(self):
        self.is_counted(wrapped(RED_X, ["not"] * 59), 0, ["x"], 60)
        self.is_counted(wrapped(NEAR_XY, [("some", "x")] * 59), 59, ["y"], 60)
        self.is_counted(wrapped(NEAR_XY, [("all", "z"), "not"] * 30), 30, ["x", "y"], 61)
        for sort in ("both", "either"):
            left, right = NEAR_XY, NEAR_XY
            for turn in range(59):
                left, right = (sort, left, RED_X), (sort, RED_X, right)
            self.is_counted(left, 0, ["x", "y"], 119)
            self.is_counted(right, 0, ["x", "y"], 119)

    def test_somewhat_beyond_sixty(self):
        self.is_counted(wrapped(NEAR_XY, [("some", "x"), "not"] * 50), 50, ["y"], 101)

    def test_four_thousand_parts(self):
        self.is_counted(("not", halves("either", [SAME_XY] * 2000)), 0, ["x", "y"], 4000)

    def test_a_told_list_is_the_asker_s_own(self):
        free_names(NEAR_XY).append("z")
        self.is_counted(NEAR_XY, 0, ["x", "y"], 1)


class So(unittest.TestCase):
    def setUp(self):
        self.world = World(3, {"red": [0, 1], "wet": [2], "dry": []}, {"near": [(0, 1), (1, 1), (2, 0)], "by": []})
        self.bare = World(0, {"red": []}, {"near": []})

    def so(self, told, saying, places=None, world=None):
        self.assertIs(is_so(world or self.world, saying, places), told, (saying, places))

    def test_marks(self):
        for word, thing in itertools.product(["red", "wet", "dry"], range(3)):
            self.so(self.world.has(word, thing), ("mark", word, "x"), {"x": thing})

    def test_ties(self):
        for word, one, other in itertools.product(["near", "by"], range(3), range(3)):
            self.so(self.world.leads(word, one, other), ("tie", word, "x", "y"), {"x": one, "y": other})
            self.so(self.world.leads(word, other, one), ("tie", word, "y", "x"), {"x": one, "y": other})
            self.so(self.world.leads(word, one, one), ("tie", word, "x", "x"), {"x": one, "y": other})

    def test_same(self):
        for one, other in itertools.product(range(3), range(3)):
            self.so(one == other, SAME_XY, {"x": one, "y": other})
            self.so(True, ("same", "x", "x"), {"x": one})

    def test_not_both_either(self):
        yes, no = ("mark", "red", "x"), ("mark", "dry", "x")
        for one, other in itertools.product([yes, no], [yes, no]):
            self.so(one == yes and other == yes, ("both", one, other), {"x": 0})
            self.so(one == yes or other == yes, ("either", one, other), {"x": 0})
            self.so(one == no, ("not", one), {"x": 0})

    def test_some_and_all(self):
        self.so(True, ("some", "x", RED_X))
        self.so(False, ("all", "x", RED_X))
        self.so(False, ("some", "x", ("mark", "dry", "x")))
        self.so(True, ("all", "x", ("either", RED_X, ("mark", "wet", "x"))))
        self.so(True, ("all", "x", ("some", "y", NEAR_XY)))
        self.so(False, ("some", "y", ("all", "x", NEAR_XY)))
        self.so(False, ("all", "y", ("some", "x", NEAR_XY)))
        self.so(True, ("some", "x", ("not", ("some", "y", ("tie", "near", "y", "x")))))

    def test_a_free_name_beside_a_bound_one(self):
        for thing, told in enumerate([True, True, False]):
            self.so(told, ("some", "x", NEAR_XY), {"y": thing})
            self.so(told, ("both", RED_X, ("some", "x", ("mark", "wet", "x"))), {"x": thing})

    def test_the_innermost_binding_holds(self):
        self.so(True, ("all", "x", ("some", "x", ("mark", "wet", "x"))))
        self.so(False, ("some", "x", ("all", "x", RED_X)))
        self.so(True, ("some", "x", ("both", ("mark", "wet", "x"), ("some", "x", RED_X))))
        self.so(True, ("some", "x", ("both", ("some", "x", RED_X), ("mark", "wet", "x"))))
        self.so(True, ("all", "x", ("some", "x", ("some", "x", ("mark", "wet", "x")))))
        self.so(False, ("some", "y", ("all", "x", ("some", "y", ("both", NEAR_XY, ("not", SAME_XY))))))

    def test_a_bound_name_is_not_that_of_the_dict(self):
        self.so(True, ("some", "x", ("mark", "wet", "x")), {"x": 0})
        self.so(False, ("all", "x", RED_X), {"x": 0})
        self.so(True, ("both", RED_X, ("some", "x", ("mark", "wet", "x"))), {"x": 0})

    def test_a_world_without_things(self):
        for saying in (RED_X, ("not", RED_X), ("some", "y", NEAR_XY), ("all", "y", SAME_XY)):
            self.so(False, ("some", "x", saying), None, self.bare)
            self.so(True, ("all", "x", saying), None, self.bare)
            self.so(True, ("not", ("some", "x", saying)), None, self.bare)
            self.so(False, ("not", ("all", "x", saying)), None, self.bare)
            self.so(False, ("some", "y", ("all", "x", saying)), None, self.bare)
            self.so(True, ("all", "y", ("some", "x", saying)), None, self.bare)
            self.so(False, ("both", ("all", "x", saying), ("some", "x", saying)), {}, self.bare)
            self.so(True, ("either", ("all", "x", saying), ("some", "x", saying)), {}, self.bare)

    def test_places_left_out_none_and_empty(self):
        for saying, told in ((("some", "x", RED_X), True), (("all", "x", RED_X), False)):
            self.assertIs(is_so(self.world, saying), told)
            self.assertIs(is_so(self.world, saying, None), told)
            self.assertIs(is_so(self.world, saying, {}), told)
            self.assertIs(is_so(self.world, saying, places={}), told)

    def test_other_keys_are_passed_by(self):
        besides = {"y": 9, "z": -1, "": 0, "X": HUGE, "xx": 2, "red": -HUGE, "~": 1}
        for thing in range(3):
            self.so(thing < 2, RED_X, {**besides, "x": thing})
            self.so(thing < 2, ("both", RED_X, ("some", "y", SAME_XY)), {**besides, "x": thing})
        self.so(True, ("some", "y", ("mark", "red", "y")), besides)
        self.so(True, ("all", "x", ("same", "x", "x")), besides, self.bare)

    def test_nothing_handed_in_is_changed(self):
        saying = ("all", "y", ("either", ("some", "x", NEAR_XY), ("not", ("mark", "red", "x"))))
        places = {"x": 0, "y": 9, "q": 1}
        ahead = copy.deepcopy((saying, places, vars(self.world)))
        first = is_so(self.world, saying, places)
        self.assertEqual((saying, places, vars(self.world)), ahead)
        self.assertEqual(list(places), ["x", "y", "q"])
        self.assertIs(is_so(self.world, saying, places), first)

    def test_a_change_of_the_dict_between(self):
        places = {"x": 0}
        self.so(True, RED_X, places)
        places["x"] = 2
        self.so(False, RED_X, places)
        with self.assertRaises(NoName):
            is_so(self.world, RED_X)

    def test_against_the_slow_way(self):
        dice = random.Random(20261116)
        for turn in range(3000):
            world = some_world(dice, turn % 6)
            saying = some_saying(dice, ["x", "y", "z"] if turn % 2 else ["a", "b", "c", "d", "e"], turn % 4, 7)
            if world.size == 0 and free_names(saying):
                saying = wrapped(saying, [(dice.choice(["some", "all"]), name) for name in free_names(saying)])
            places = {name: dice.randrange(world.size) for name in free_names(saying)}
            self.so(slow_is_so(world, saying, places), saying, places, world)

    def test_the_greatest_depth_in_the_greatest_world(self):
        names = "abcdef"
        for size in range(6):
            world = World(size, {}, {})
            for count in range(1, 7):
                pairs = list(itertools.combinations(names[:count], 2))
                facts = [("not", ("same", one, other)) for one, other in pairs] + [("same", "a", "a")]
                saying = wrapped(halves("both", facts), [("some", name) for name in names[:count]])
                self.so(count <= size, saying, None, world)

    def test_a_long_saying_of_the_greatest_depth(self):
        ring = World(5, {"red": [0, 1, 2, 3, 4]}, {"near": [(thing, (thing + 1) % 5) for thing in range(5)]})
        names = "abcdef"
        good = [("either", ("tie", "near", names[at % 6], names[at * at % 6]), ("mark", "red", names[at % 5]))
                for at in range(990)]
        for last, told in ((("mark", "red", "a"), True), (("tie", "near", "a", "f"), False)):
            saying = wrapped(halves("both", good + [last]), [("all", name) for name in names])
            self.assertLessEqual(parts(saying), 4000)
            self.so(told, saying, None, ring)

    def test_sixty_within_one_another(self):
        self.so(True, wrapped(RED_X, ["not"] * 58), {"x": 0})
        self.so(False, wrapped(RED_X, ["not"] * 59), {"x": 0})
        self.so(False, wrapped(RED_X, ["not"] * 54 + [("all", "x")] * 5))
        self.so(True, wrapped(RED_X, ["not"] * 53 + [("some", "x")] * 6))

    def test_somewhat_beyond_depth_six(self):
        self.so(True, wrapped(RED_X, [("some", "x")] + [("all", "y"), ("some", "x")] * 4))
        self.so(False, wrapped(RED_X, [("all", "x")] + [("all", "y"), ("some", "x")] * 3))


class Refused(unittest.TestCase):
    def setUp(self):
        self.world = World(2, {"red": [0]}, {"near": [(0, 1)]})

    def refused(self, error, field, value, saying, *places, world=None):
        ahead = copy.deepcopy(places)
        with self.assertRaises(error) as caught:
            is_so(world or self.world, saying, *places)
        self.assertIs(caught.exception.__class__, error)
        self.assertEqual(getattr(caught.exception, field), value)
        self.assertEqual(places, ahead)
        self.assertIs(is_so(self.world, RED_X, {"x": 0}), True)

    def test_no_name(self):
        for places in ((), (None,), ({},), ({"y": 0, "X": 0},)):
            self.refused(NoName, "name", "x", RED_X, *places)
        self.refused(NoName, "name", "x", NEAR_XY, {"y": 0})
        self.refused(NoName, "name", "y", NEAR_XY, {"x": 0})
        self.refused(NoName, "name", "y", ("some", "x", SAME_XY), {"x": 0})

    def test_the_first_name_in_the_letters_order(self):
        self.refused(NoName, "name", "b", ("tie", "near", "c", "b"), {})
        self.refused(NoName, "name", "a", ("both", ("mark", "red", "b"), ("mark", "red", "a")))
        self.refused(NoName, "name", "c", ("both", ("tie", "near", "d", "c"), ("mark", "red", "a")), {"a": 0})

    def test_a_name_that_is_free_beside_its_binding(self):
        for sort in ("both", "either"):
            self.refused(NoName, "name", "x", (sort, ("some", "x", RED_X), RED_X))
            self.refused(NoName, "name", "x", (sort, RED_X, ("all", "x", RED_X)))

    def test_no_thing(self):
        for thing in (2, 3, -1, -2, HUGE, -HUGE):
            self.refused(NoThing, "thing", thing, RED_X, {"x": thing})
            self.refused(NoThing, "thing", thing, NEAR_XY, {"x": 0, "y": thing})
            self.refused(NoThing, "thing", thing, ("same", "x", "x"), {"x": thing})
            self.refused(NoThing, "thing", thing, ("some", "y", SAME_XY), {"x": thing, "y": 0})

    def test_no_thing_in_a_world_without_things(self):
        self.refused(NoThing, "thing", 0, ("not", ("same", "x", "x")), {"x": 0}, world=World(0, {}, {}))

    def test_the_thing_of_the_first_name_in_the_letters_order(self):
        self.refused(NoThing, "thing", 8, ("tie", "near", "c", "b"), {"c": 9, "b": 8})
        self.refused(NoThing, "thing", -1, ("tie", "near", "b", "c"), {"a": 7, "c": -1, "b": 1})
        self.refused(NoThing, "thing", 7, ("both", ("mark", "red", "b"), ("mark", "red", "a")), {"b": -1, "a": 7})

    def test_no_word(self):
        for word in ("blue", "near", "re", "a"):
            self.refused(NoWord, "word", word, ("mark", word, "x"), {"x": 0})
            self.refused(NoWord, "word", word, ("some", "x", ("not", ("mark", word, "x"))))
        for word in ("by", "red", "nearr", "a"):
            self.refused(NoWord, "word", word, ("tie", word, "x", "y"), {"x": 0, "y": 0})
            self.refused(NoWord, "word", word, ("all", "x", ("tie", word, "x", "x")))

    def test_the_first_word_from_left_to_right(self):
        one, two = ("mark", "zig", "x"), ("tie", "awl", "x", "x")
        for sort in ("both", "either"):
            self.refused(NoWord, "word", "zig", (sort, one, two), {"x": 0})
            self.refused(NoWord, "word", "awl", (sort, two, one), {"x": 0})
            self.refused(NoWord, "word", "awl", (sort, (sort, RED_X, ("not", two)), one), {"x": 0})
            self.refused(NoWord, "word", "zig", (sort, ("some", "x", ("not", one)), two), {"x": 0})
            self.refused(NoWord, "word", "awl", (sort, RED_X, (sort, two, one)), {"x": 0})

    def test_also_where_the_answer_does_not_hang_on_it(self):
        so, not_so = ("same", "x", "x"), ("not", ("same", "x", "x"))
        bad = ("mark", "blue", "x")
        self.refused(NoWord, "word", "blue", ("either", so, bad), {"x": 0})
        self.refused(NoWord, "word", "blue", ("both", not_so, bad), {"x": 0})
        self.refused(NoWord, "word", "blue", ("either", bad, so), {"x": 0})
        self.refused(NoName, "name", "y", ("either", so, ("mark", "red", "y")), {"x": 0})
        self.refused(NoName, "name", "y", ("both", not_so, ("mark", "red", "y")), {"x": 0})
        self.refused(NoThing, "thing", 5, ("either", so, ("mark", "red", "y")), {"x": 0, "y": 5})
        self.refused(NoThing, "thing", 5, ("both", not_so, ("mark", "red", "y")), {"x": 0, "y": 5})

    def test_also_within_a_binding_in_a_world_without_things(self):
        bare = World(0, {"red": []}, {"near": []})
        for sort in ("some", "all"):
            self.refused(NoWord, "word", "blue", (sort, "x", ("mark", "blue", "x")), world=bare)
            self.refused(NoWord, "word", "red", (sort, "x", ("tie", "red", "x", "x")), world=bare)
            self.refused(NoName, "name", "y", (sort, "x", SAME_XY), world=bare)
            self.refused(NoThing, "thing", 0, (sort, "x", SAME_XY), {"y": 0}, world=bare)

    def test_several_reasons_at_once(self):
        bad = ("both", ("mark", "blue", "a"), ("tie", "red", "b", "c"))
        self.refused(NoName, "name", "c", bad, {"a": 9, "b": 8})
        self.refused(NoName, "name", "a", bad, {"c": 9, "b": 0})
        self.refused(NoName, "name", "b", ("tie", "near", "a", "b"), {"a": 9})
        self.refused(NoName, "name", "b", ("tie", "red", "a", "b"), {"a": 0})
        self.refused(NoThing, "thing", 8, bad, {"a": 0, "b": 8, "c": 9})
        self.refused(NoThing, "thing", 9, bad, {"a": 0, "b": 1, "c": 9})
        self.refused(NoWord, "word", "blue", bad, {"a": 0, "b": 1, "c": 1})


if __name__ == "__main__":
    unittest.main()
