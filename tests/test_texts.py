import itertools
import random
import re
import unittest

from tests.helpers import Refusals, halves, some_saying, wrapped
from twinrounds.errors import NoSaying
from twinrounds.sayings import parts
from twinrounds.texts import read, shown

RED_X = ("mark", "red", "x")
NEAR_XY = ("tie", "near", "x", "y")
SAME_XY = ("same", "x", "y")
FACTS = [(RED_X, "red(x)"), (NEAR_XY, "near(x,y)"), (SAME_XY, "x=y")]
WORDS = ["a", "x", "z", "abcdefgh", "zzzzzzzz", "nota", "nots", "no", "ot", "order", "ors", "o", "r", "somex", "som",
         "allx", "al", "ll", "android", "ands", "an", "nor", "notx", "mark", "tie", "same", "both", "either"]
KEPT = ["not", "and", "or", "some", "all"]
LETTERS = "abcdefghijklmnopqrstuvwxyz"
OTHER_SIGNS = [chr(number) for number in range(32, 127) if chr(number) not in LETTERS + "%"]

# The pieces of a text that are replaced by a line feed, which no text has, till nothing else is left.
PIECES = re.compile(r"(?<![a-z])(?!(?:not|and|or|some|all)\()[a-z]{1,8}\([a-z](?:,[a-z])?\)"
                    r"|(?<![a-z])[a-z]=[a-z](?![a-z])"
                    r"|(?<![a-z])not \n"
                    r"|(?<![a-z])(?:some|all) [a-z] \n"
                    r"|\(\n (?:and|or) \n\)")


def shows_a_saying(text):
    """Another way to tell whether a text is the shown text of some saying."""
    before = None
    while text != before:
        before, text = text, PIECES.sub("\n", text)
    return text == "\n"


class Shown(unittest.TestCase):
    def goes_both_ways(self, saying, text):
        self.assertEqual(shown(saying), text)
        self.assertIs(shown(saying).__class__, str)
        told = read(text)
        self.assertEqual(told, saying)
        self.are_tuples(told)

    def are_tuples(self, saying):
        self.assertIs(saying.__class__, tuple)
        for part in saying:
            if not isinstance(part, str):
                self.are_tuples(part)

    def test_facts(self):
        for saying, text in FACTS:
            self.goes_both_ways(saying, text)
        self.goes_both_ways(("tie", "near", "y", "x"), "near(y,x)")
        self.goes_both_ways(("tie", "near", "x", "x"), "near(x,x)")
        self.goes_both_ways(("same", "y", "x"), "y=x")
        self.goes_both_ways(("same", "x", "x"), "x=x")

    def test_each_sort_of_each_fact(self):
        for saying, text in FACTS:
            self.goes_both_ways(("not", saying), "not " + text)
            for name in LETTERS:
                self.goes_both_ways(("some", name, saying), "some " + name + " " + text)
                self.goes_both_ways(("all", name, saying), "all " + name + " " + text)
            for other, further in FACTS:
                self.goes_both_ways(("both", saying, other), "(" + text + " and " + further + ")")
                self.goes_both_ways(("either", saying, other), "(" + text + " or " + further + ")")

    def test_each_sort_within_each(self):
        forms = [(lambda saying, text: (("not", saying), f"not {text}")),
                 (lambda saying, text: (("some", "x", saying), f"some x {text}")),
                 (lambda saying, text: (("all", "y", saying), f"all y {text}")),
                 (lambda saying, text: (("both", saying, RED_X), f"({text} and red(x))")),
                 (lambda saying, text: (("both", RED_X, saying), f"(red(x) and {text})")),
                 (lambda saying, text: (("either", saying, SAME_XY), f"({text} or x=y)")),
                 (lambda saying, text: (("either", SAME_XY, saying), f"(x=y or {text})"))]
        for fact in FACTS:
            for inner, middle, outer in itertools.product(forms, forms, forms):
                self.goes_both_ways(*outer(*middle(*inner(*fact))))

    def test_the_document_s_shape_by_hand(self):
        saying = ("all", "x", ("either", ("not", RED_X), ("some", "y", ("both", NEAR_XY, ("not", SAME_XY)))))
        self.goes_both_ways(saying, "all x (not red(x) or some y (near(x,y) and not x=y))")
        self.goes_both_ways(("not", ("not", ("not", SAME_XY))), "not not not x=y")
        self.goes_both_ways(("both", ("both", SAME_XY, RED_X), ("either", RED_X, SAME_XY)),
                            "((x=y and red(x)) and (red(x) or x=y))")

    def test_words(self):
        for word in WORDS:
            self.goes_both_ways(("mark", word, "x"), word + "(x)")
            self.goes_both_ways(("tie", word, "x", "y"), word + "(x,y)")
            self.goes_both_ways(("not", ("mark", word, "x")), "not " + word + "(x)")
            self.goes_both_ways(("some", "n", ("tie", word, "n", "o")), "some n " + word + "(n,o)")
            self.goes_both_ways(("all", "a", ("mark", word, "a")), "all a " + word + "(a)")
            self.goes_both_ways(("both", ("mark", word, "x"), ("not", ("tie", word, "x", "x"))),
                                f"({word}(x) and not {word}(x,x))")
            self.goes_both_ways(("either", ("tie", word, "x", "x"), ("mark", word, "x")), f"({word}(x,x) or {word}(x))")

    def test_words_of_every_letter_and_length(self):
        for letter, length in itertools.product(LETTERS, range(1, 9)):
            word = letter * length
            self.goes_both_ways(("mark", word, letter), f"{word}({letter})")
            self.goes_both_ways(("tie", word, letter, "q"), f"{word}({letter},q)")

    def test_one_word_as_a_mark_s_and_as_a_tie_s(self):
        self.goes_both_ways(("both", ("mark", "red", "x"), ("tie", "red", "x", "y")), "(red(x) and red(x,y))")
        self.goes_both_ways(("either", ("tie", "a", "a", "a"), ("mark", "a", "a")), "(a(a,a) or a(a))")

    def test_names_that_are_the_letter_of_a_word(self):
        for name in LETTERS:
            saying = ("some", name, ("both", ("mark", name, name), ("either", ("tie", name, name, name),
                                                                    ("same", name, name))))
            self.goes_both_ways(saying, f"some {name} ({name}({name}) and ({name}({name},{name}) or {name}={name}))")

    def test_sixty_begun_one_within_another(self):
        self.goes_both_ways(wrapped(RED_X, ["not"] * 59), "not " * 59 + "red(x)")
        self.goes_both_ways(wrapped(SAME_XY, ["not"] * 60), "not " * 60 + "x=y")
        self.goes_both_ways(wrapped(NEAR_XY, [("some", "x")] * 59), "some x " * 59 + "near(x,y)")
        self.goes_both_ways(wrapped(SAME_XY, [("all", "y"), "not"] * 30), "not all y " * 30 + "x=y")
        for sort, joint in (("both", " and "), ("either", " or ")):
            left, right = SAME_XY, SAME_XY
            for turn in range(60):
                left, right = (sort, left, SAME_XY), (sort, SAME_XY, right)
            self.goes_both_ways(left, "(" * 60 + "x=y" + (joint + "x=y)") * 60)
            self.goes_both_ways(right, ("(x=y" + joint) * 60 + "x=y" + ")" * 60)

    def test_somewhat_beyond_sixty(self):
        self.goes_both_ways(wrapped(RED_X, ["not"] * 80), "not " * 80 + "red(x)")
        saying = RED_X
        for turn in range(80):
            saying = ("either", saying, SAME_XY)
        self.goes_both_ways(saying, "(" * 80 + "red(x)" + " or x=y)" * 80)

    def test_four_thousand_parts(self):
        for sort, joint in (("both", " and "), ("either", " or ")):
            saying = ("not", halves(sort, [SAME_XY, RED_X] * 1000))
            self.assertEqual(parts(saying), 4000)
            self.assertEqual(read(shown(saying)), saying)
            self.assertEqual(shown(saying).count(joint), 1999)
        saying = wrapped(halves("both", [NEAR_XY] * 1974), [("all", "x"), "not"] * 26)
        self.assertEqual(parts(saying), 3999)
        self.assertEqual(read(shown(saying)), saying)

    def test_four_thousand_signs(self):
        saying = halves("both", [SAME_XY] * 399 + [("not", ("mark", "abc", "x"))])
        self.goes_both_ways(saying, shown(saying))
        self.assertEqual(len(shown(saying)), 4000)

    def test_sayings_by_dice(self):
        dice = random.Random(10)
        found = {}
        for turn in range(3000):
            saying = some_saying(dice, "xyznoas", turn % 5, turn % 8, WORDS, WORDS)
            self.assertEqual(read(shown(saying)), saying)
            self.assertTrue(shows_a_saying(shown(saying)), shown(saying))
            self.assertEqual(found.setdefault(shown(saying), saying), saying)

    def test_told_the_same_again(self):
        saying = ("some", "x", ("both", RED_X, ("not", SAME_XY)))
        text = shown(saying)
        for turn in range(3):
            self.goes_both_ways(saying, text)
            with self.assertRaises(NoSaying):
                read(text + ")")


class Refused(Refusals):
    def no_saying(self, *texts):
        for text in texts:
            self.refused(NoSaying, {"line": text}, read, text)
            self.assertEqual(read("some x (near(x,y) or not x=y)"),
                             ("some", "x", ("either", NEAR_XY, ("not", SAME_XY))))

    def test_nothing_and_blanks(self):
        self.no_saying("", " ", "  ", " " * 4000)

    def test_blanks_ahead_and_behind(self):
        for text in ("red(x)", "near(x,y)", "x=y", "not x=y", "(x=y and x=y)", "(x=y or x=y)", "some x x=y",
                     "all x x=y"):
            self.no_saying(" " + text, text + " ", "  " + text, text + "  ")

    def test_a_blank_too_many(self):
        self.no_saying("red (x)", "red( x)", "red(x )", "r ed(x)", "near(x ,y)", "near(x, y)", "near(x,y )", "x =y",
                       "x= y", "x = y", "not  x=y", "no t x=y", "(x=y  and x=y)", "(x=y and  x=y)", "( x=y and x=y)",
                       "(x=y and x=y )", "(x=y a nd x=y)", "(x=y  or x=y)", "(x=y or  x=y)", "(x=y o r x=y)",
                       "some  x x=y", "some x  x=y", "so me x x=y", "all  x x=y", "all x  x=y", "a ll x x=y")

    def test_a_blank_too_few(self):
        self.no_saying("notx=y", "somex x=y", "some xx=y", "somexx=y", "allx x=y", "all xx=y", "(x=yand x=y)",
                       "(x=y andx=y)", "(x=yor x=y)", "(x=y orx=y)", "(x=yandx=y)", "(red(x)and red(x))",
                       "(red(x) or(x=y or x=y))", "not(x=y and x=y)", "some x(x=y or x=y)", "all x(x=y or x=y)")

    def test_a_bracket_that_lacks_or_stands_twice(self):
        self.no_saying("red x)", "redx)", "red(x", "red((x)", "red(x))", "near(x,y", "near(x,y))", "near((x,y)",
                       "x=y and x=y", "(x=y and x=y", "x=y and x=y)", "((x=y and x=y)", "(x=y and x=y))", "(x=y)",
                       "(red(x))", "((x=y and x=y))", "(not x=y)", "()", "(", ")", ")(", "[x=y and x=y]", "red[x]")

    def test_a_comma_that_lacks_or_stands_twice(self):
        self.no_saying("near(xy)", "near(x,,y)", "near(,x,y)", "near(x,y,)", "red(x,)", "red(,x)", "red(,)",
                       "near(x,y,z)", "near(x;y)", "near(x.y)", ",", "x,y")

    def test_a_name_that_lacks_or_stands_twice(self):
        self.no_saying("red()", "near(,y)", "near(x,)", "near(,)", "x=", "=y", "=", "some x=y", "all red(x)", "some",
                       "some ", "some x", "some x ", "all", "all x", "all x ", "some x y x=y", "all x x red(x)",
                       "red(xx)", "red(xy)", "near(xx,y)", "near(x,yy)", "xx=y", "x=yy", "some xx x=y", "all xy x=y",
                       "red(x)(y)", "x=y=z", "x==y")

    def test_a_word_that_lacks_or_stands_twice(self):
        self.no_saying("(x)", "(x,y)", "red", "x", "red red(x)", "redred(x)(x)", "not (x)", "some x (x)", "x red(x)",
                       "abcdefgha(x)", "red(red)", "red(red(x))", "near(x,near)")

    def test_and_and_or_that_lack_or_stand_twice(self):
        self.no_saying("(x=y x=y)", "(x=y  x=y)", "(x=y and and x=y)", "(x=y or or x=y)", "(x=y and or x=y)",
                       "(x=y and x=y and x=y)", "(x=y or x=y or x=y)", "(x=y and x=y or x=y)", "(and x=y)", "(x=y and)",
                       "(x=y and )", "( and x=y)", "(x=y or)", "(x=y or )", "( or )", "(x=y not x=y)", "and", "or",
                       "and x=y", "or x=y", "(x=y nor x=y)", "(x=y an x=y)", "(x=y,x=y)")

    def test_a_saying_that_lacks(self):
        self.no_saying("not", "not ", "not not", "not not ", "some x not ", "(not  and x=y)", "(x=y or not )")

    def test_something_behind_a_whole_saying(self):
        for text in ("red(x)", "near(x,y)", "x=y", "not x=y", "(x=y and x=y)", "some x x=y"):
            for sign in list("ax()=,~") + [" x", " and x=y", " or x=y", " x=y", "x=y", text, " " + text, ".", "\\"]:
                self.no_saying(text + sign)

    def test_what_is_not_begun_by_a_kept_text(self):
        for word in WORDS + ["and", "or", "any", "every", "no", "non", "nor", "so", "if", ""]:
            self.no_saying(word + " x=y", word + " x x=y", word + " red(x)", f"{word} (x=y or x=y)")
            if word not in KEPT:
                self.no_saying(f"(x=y {word} x=y)")

    def test_kept_texts_are_no_words(self):
        for word in KEPT:
            self.no_saying(word + "(x)", word + "(x,y)", "not " + word + "(x)", "some x " + word + "(x)",
                           f"(red(x) and {word}(x))", f"({word}(x,y) or red(x))", word + "=x", "x=" + word)

    def test_words_of_nine_letters_and_more(self):
        for word in ("abcdefghi", "zzzzzzzzz", "a" * 60, "b" * 3997):
            self.no_saying(word + "(x)", word + "(x,y)", "not " + word + "(x)", word, word + "=x")

    def test_great_letters(self):
        self.no_saying("Red(x)", "RED(x)", "reD(x)", "red(X)", "near(X,y)", "near(x,Y)", "X=y", "x=Y", "NOT x=y",
                       "Not x=y", "Some x x=y", "some X x=y", "ALL x x=y", "(x=y AND x=y)", "(x=y Or x=y)")

    def test_other_signs_in_each_place(self):
        for sign in OTHER_SIGNS:
            self.no_saying(f"re{sign}d(x)", f"{sign}red(x)", f"red(x){sign}", f"red({sign})", f"red{sign}(x)",
                           f"near({sign},y)", f"near(x,{sign})", f"{sign}=y", f"x={sign}", f"not {sign}",
                           f"some {sign} x=y", f"all {sign} x=y", sign, sign * 3)
            if sign not in "(":
                self.no_saying(f"red{sign}x)")
            if sign not in ")":
                self.no_saying(f"red(x{sign}", f"(x=y and x=y{sign}")
            if sign not in ",":
                self.no_saying(f"near(x{sign}y)")
            if sign not in "=":
                self.no_saying(f"x{sign}y")
            if sign not in " ":
                self.no_saying(f"not{sign}x=y", f"some{sign}x x=y", f"some x{sign}x=y", f"(x=y{sign}and x=y)",
                               f"(x=y or{sign}x=y)")

    def test_the_other_way_of_telling_by_hand(self):
        for text in ("red(x)", "near(x,y)", "x=y", "not (x=y and some x red(x))", "all a (a(a) or a(a,a))"):
            self.assertTrue(shows_a_saying(text), text)
        for text in ("", "not(x)", "abcdefghi(x)", "x=yy", "(x=y)", "notx=y", "x=y ", "(x=y and x=y", "and(x,y)"):
            self.assertFalse(shows_a_saying(text), text)

    def is_told_rightly(self, text):
        if shows_a_saying(text):
            self.assertEqual(shown(read(text)), text)
        else:
            self.refused(NoSaying, {"line": text}, read, text)

    def test_every_short_text(self):
        for length in range(7):
            for signs in itertools.product("ao(),=", repeat=length):
                self.is_told_rightly("".join(signs))

    def test_every_short_text_of_pieces(self):
        pieces = ["not", "some", "all", "and", "or", " ", "x", "=", "(", ")", "x=y", "red(x)"]
        for length in range(5):
            for chosen in itertools.product(pieces, repeat=length):
                self.is_told_rightly("".join(chosen))

    def test_one_change_of_a_shown_text(self):
        dice = random.Random(4000)
        signs = "xynotandrsmel(),=  A1"
        changed = refused = 0
        for turn in range(3000):
            text = shown(some_saying(dice, "xyo", 2, turn % 5, WORDS, WORDS))
            at = dice.randrange(len(text))
            sign = dice.choice(signs)
            for other in (text[:at] + text[at + 1:], text[:at] + sign + text[at:], text[:at] + sign + text[at + 1:],
                          text[:at] + text[at] + text[at:], text[:at], text[at:]):
                self.is_told_rightly(other)
                changed += 1
                refused += not shows_a_saying(other)
        self.assertGreater(refused, 5000)
        self.assertGreater(changed - refused, 1000)

    def test_a_refused_text_of_the_greatest_length(self):
        self.no_saying("x" * 4000, "not " * 60 + "x" * 3760, "(" * 60 + "x=y" + " and x=y)" * 59 + " and x=y",
                       shown(halves("both", [SAME_XY] * 399)) + " and x=y", "a=a" + " or a=a" * 571)


if __name__ == "__main__":
    unittest.main()
