"""Sums written as texts, and read from them."""

from twistbrackets.brackets import GREATEST_WEIGHT, LETTERS, weight
from twistbrackets.errors import NotRead

FIGURES = "0123456789"
MOST_FIGURES = 30
MOST_TUPLES = 12


def written(total):
    if len(total) == 0:
        return "0"
    return "".join([written_count(count) + written_bracket(bracket) for count, bracket in total])


def written_count(count):
    sign = "-" if count < 0 else "+"
    return sign + str(abs(count))


def written_bracket(bracket):
    if isinstance(bracket, str):
        return bracket
    first = written_bracket(bracket[0])
    second = written_bracket(bracket[1])
    return f"[{first},{second}]"


def read(text):
    if text == "0":
        return []
    reader = Reader(text)
    total = [reader.take_tuple()]
    while not reader.at_end():
        total.append(reader.take_tuple())
    if len(total) > MOST_TUPLES:
        raise NotRead(f"more than {MOST_TUPLES} tuples")
    return total


class Reader:
    def __init__(self, text):
        self.text = text
        self.place = 0

    def at_end(self):
        return self.place == len(self.text)

    def sign_here(self):
        # The text may end only between two tuples, where at_end is asked first.
        if self.at_end():
            raise NotRead("the text ends too early")
        return self.text[self.place]

    def take(self):
        sign = self.sign_here()
        self.place = self.place + 1
        return sign

    def take_wanted(self, wanted):
        sign = self.take()
        if sign != wanted:
            raise NotRead(f"{sign!r} stands where {wanted!r} should")

    def take_tuple(self):
        count = self.take_count()
        bracket = self.take_bracket(0)
        if weight(bracket) > GREATEST_WEIGHT:
            raise NotRead(f"a bracket of a weight above {GREATEST_WEIGHT}")
        return (count, bracket)

    def take_count(self):
        sign = self.take()
        if sign not in ("+", "-"):
            raise NotRead(f"{sign!r} stands where a sign + or - should")
        figures = self.take_figures()
        if figures == "0" and sign == "-":
            raise NotRead("the count 0 has the sign +")
        count = int(figures)
        return -count if sign == "-" else count

    def take_figures(self):
        start = self.place
        while self.sign_here() in FIGURES:
            self.take()
        figures = self.text[start:self.place]
        if figures == "":
            raise NotRead("a count lacks")
        if figures.startswith("0") and figures != "0":
            raise NotRead("a nought stands ahead of a count")
        if len(figures) > MOST_FIGURES:
            raise NotRead(f"a count of more than {MOST_FIGURES} figures")
        return figures

    def take_bracket(self, depth):
        sign = self.take()
        if sign in LETTERS:
            return sign
        if sign != "[":
            raise NotRead(f"{sign!r} stands where a bracket should")
        # A bracket has more letters than it is deep. Refused here already, it never grows so deep
        # that the calls would run out.
        if depth + 1 >= GREATEST_WEIGHT:
            raise NotRead(f"a bracket of a weight above {GREATEST_WEIGHT}")
        first = self.take_bracket(depth + 1)
        self.take_wanted(",")
        second = self.take_bracket(depth + 1)
        self.take_wanted("]")
        return (first, second)
