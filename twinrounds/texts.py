"""Texts: how a saying is shown, and how a shown saying is read."""

from twinrounds.errors import NoSaying
from twinrounds.sayings import BINDERS
from twinrounds.worlds import LETTERS, is_word

AND = " and "
OR = " or "


def shown(saying):
    sort = saying[0]
    if sort == "same":
        return "=".join(saying[1:])
    if sort == "mark" or sort == "tie":
        return saying[1] + "(" + ",".join(saying[2:]) + ")"
    if sort == "not":
        return "not " + shown(saying[1])
    if sort in BINDERS:
        return sort + " " + saying[1] + " " + shown(saying[2])
    joint = AND if sort == "both" else OR
    return "(" + shown(saying[1]) + joint + shown(saying[2]) + ")"


# A text and the place up to which it has been read.
class Reader:
    def __init__(self, line):
        self.line = line
        self.at = 0

    def is_ahead(self, text):
        return self.line[self.at:self.at + len(text)] == text

    def is_at_letter(self):
        return self.at < len(self.line) and self.line[self.at] in LETTERS

    def take(self, text):
        if not self.is_ahead(text):
            raise NoSaying(self.line)
        self.at = self.at + len(text)

    def take_name(self):
        if not self.is_at_letter():
            raise NoSaying(self.line)
        self.at = self.at + 1
        return self.line[self.at - 1]

    def take_letters(self):
        start = self.at
        while self.is_at_letter():
            self.at = self.at + 1
        return self.line[start:self.at]


def read_mark_or_tie(reader, word):
    if not is_word(word):
        raise NoSaying(reader.line)
    reader.take("(")
    first = reader.take_name()
    if reader.is_ahead(")"):
        reader.take(")")
        return ("mark", word, first)
    reader.take(",")
    second = reader.take_name()
    reader.take(")")
    return ("tie", word, first, second)


def read_same(reader, name):
    if len(name) != 1:
        raise NoSaying(reader.line)
    reader.take("=")
    return ("same", name, reader.take_name())


def read_both_or_either(reader):
    reader.take("(")
    first = read_saying(reader)
    sort = "both" if reader.is_ahead(AND) else "either"
    reader.take(AND if sort == "both" else OR)
    second = read_saying(reader)
    reader.take(")")
    return (sort, first, second)


def read_some_or_all(reader, sort):
    reader.take(" ")
    name = reader.take_name()
    reader.take(" ")
    return (sort, name, read_saying(reader))


# The sign behind the first letters decides the sort, so no text is read in two
# ways: "all" is begun by all and a blank, while all( and all= show nothing.
def read_saying(reader):
    if reader.is_ahead("("):
        return read_both_or_either(reader)
    letters = reader.take_letters()
    if reader.is_ahead("("):
        return read_mark_or_tie(reader, letters)
    if reader.is_ahead("="):
        return read_same(reader, letters)
    if letters in BINDERS:
        return read_some_or_all(reader, letters)
    if letters != "not":
        raise NoSaying(reader.line)
    reader.take(" ")
    return ("not", read_saying(reader))


def read(line):
    reader = Reader(line)
    saying = read_saying(reader)
    if reader.at < len(line):
        raise NoSaying(line)
    return saying
