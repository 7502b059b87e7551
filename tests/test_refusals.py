import unittest

from twistbrackets.errors import NoNumber, NoSum, NotRead, NoWord, TooGreat, TwistError
from twistbrackets.notes import read
from twistbrackets.sums import bracket_of, gathered, put_in
from twistbrackets.words import cut, how_many, plain_bracket, plain_words

REFUSALS = (NoWord, NoNumber, NoSum, TooGreat, NotRead)
FIVE = (((("a", "b"), "c"), "a"), "b")

REFUSED = (
    (NoWord, cut, ("",)),
    (NoWord, cut, ("a",)),
    (NoWord, cut, ("ba",)),
    (NoWord, plain_bracket, ("",)),
    (NoWord, plain_bracket, ("abab",)),
    (NoNumber, plain_words, (0, 1)),
    (NoNumber, plain_words, (4, 1)),
    (NoNumber, plain_words, (1, 0)),
    (NoNumber, plain_words, (1, 9)),
    (NoNumber, how_many, (0, 1)),
    (NoNumber, how_many, (4, 1)),
    (NoNumber, how_many, (1, 0)),
    (NoNumber, how_many, (1, 61)),
    (NoSum, gathered, ([("ab", 1)],)),
    (NoSum, gathered, ([("aa", 1)],)),
    (TooGreat, bracket_of, ([(1, FIVE)], [(1, FIVE)])),
    (TooGreat, put_in, ([(1, ("a", "a"))], [(1, FIVE)], [], [])),
    (NotRead, read, ("",)),
    (NotRead, read, ("-0a",)),
    (NotRead, read, ("+1[a,b",)),
    (NotRead, read, ("+1[[[[a,b],[a,b]],[[a,b],[a,b]]],a]",)),
    (NotRead, read, ("+1[[[[[[[[a,b],a],a],a],a],a],a],a]",)),
    (NotRead, read, ("+1" + "0" * 30 + "a",)),
    (NotRead, read, ("+1a" * 13,)),
)


class RefusalsTest(unittest.TestCase):
    def test_each_refusal_is_of_its_own_class_and_of_no_other(self):
        for expected, function, handed in REFUSED:
            with self.subTest(function=function.__name__, handed=handed):
                with self.assertRaises(TwistError) as caught:
                    function(*handed)
                self.assertIs(type(caught.exception), expected)
                self.assertIsInstance(caught.exception, ValueError)
                classes = [refusal for refusal in REFUSALS if isinstance(caught.exception, refusal)]
                self.assertEqual(classes, [expected])

    def test_every_class_is_among_the_refusals_tried(self):
        self.assertEqual({expected for expected, function, handed in REFUSED}, set(REFUSALS))


if __name__ == "__main__":
    unittest.main()
