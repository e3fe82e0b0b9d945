import unittest

from twinrounds import errors

FIELDS = {
    "TooGreat": ["number", "most"],
    "NoWord": ["word"],
    "NoThing": ["thing"],
    "NoName": ["name"],
    "NoSaying": ["line"],
    "Unlike": [],
    "NoPointing": [],
}
HUGE = 10 ** 59 + 7


class Errors(unittest.TestCase):
    def test_just_these_classes(self):
        found = sorted(name for name in vars(errors) if isinstance(getattr(errors, name), type))
        self.assertEqual(found, sorted(list(FIELDS) + ["RoundError"]))

    def test_round_error_is_made_of_a_text(self):
        error = errors.RoundError("so not")
        self.assertEqual(str(error), "so not")
        self.assertIsInstance(error, ValueError)
        self.assertEqual(errors.RoundError.__bases__, (ValueError,))

    def test_each_stands_straight_under_round_error(self):
        for name in FIELDS:
            self.assertEqual(getattr(errors, name).__bases__, (errors.RoundError,), name)

    def test_none_stands_under_another(self):
        for one in FIELDS:
            for other in FIELDS:
                under = issubclass(getattr(errors, one), getattr(errors, other))
                self.assertEqual(under, one == other, (one, other))

    def test_too_great_has_its_fields_in_order(self):
        for number, most in [(6, 5), (5, 6), (HUGE, 3), (4, HUGE)]:
            error = errors.TooGreat(number, most)
            self.assertEqual((error.number, error.most), (number, most))

    def test_classes_of_one_field(self):
        values = {
            "NoWord": ["", "red", "Red 1", "{word}", "~" * 60],
            "NoThing": [0, -1, 5, HUGE, -HUGE],
            "NoName": ["x", "a"],
            "NoSaying": ["", "red(x", "{line}", "'", '"', " " * 4000],
        }
        for name, handed in values.items():
            for value in handed:
                error = getattr(errors, name)(value)
                self.assertEqual(getattr(error, FIELDS[name][0]), value)
                self.assertEqual(list(vars(error)), FIELDS[name])

    def test_classes_of_a_text(self):
        for name in ["Unlike", "NoPointing"]:
            self.assertEqual(str(getattr(errors, name)("a text")), "a text")

    def test_each_is_taken_as_round_error_and_as_value_error(self):
        made = [errors.TooGreat(6, 5), errors.NoWord("x1"), errors.NoThing(9), errors.NoName("x"),
                errors.NoSaying("("), errors.Unlike("unlike"), errors.NoPointing("none")]
        for error in made:
            for above in (errors.RoundError, ValueError):
                with self.assertRaises(above) as caught:
                    raise error
                self.assertIs(caught.exception, error)


if __name__ == "__main__":
    unittest.main()
