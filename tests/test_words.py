import unittest

from oracle import all_words, expected_bracket, expected_cut, expected_number, expected_plain
from twistbrackets.brackets import words_of
from twistbrackets.errors import NoNumber, NoWord
from twistbrackets.words import cut, how_many, is_plain, plain_bracket, plain_words

PLAIN = (
    "a", "b", "c", "ab", "ac", "bc", "aab", "abb", "abc", "acb", "bcc", "aaab", "aabb", "abac", "acbc",
    "aabab", "ababb", "abacabb", "aaaaaaab", "abbbbbbb", "aabaabab", "abcabcac", "bbbbbbbc",
)
NOT_PLAIN = (
    "aa", "bb", "cc", "ba", "ca", "cb", "aaa", "aba", "baa", "bab", "bca", "cab", "cba", "abab", "aabaa",
    "abcab", "acab", "bacb", "abcabc", "aaaaaaaa", "abababab", "baaaaaaa", "aabaabaa", "abcabcab", "aabbaabb",
)
BEYOND = (-(10 ** 30), -60, -2, -1, 0)


class IsPlainTest(unittest.TestCase):
    def test_the_empty_word_is_not_plain(self):
        self.assertIs(is_plain(""), False)

    def test_each_letter_is_plain(self):
        for letter in "abc":
            self.assertIs(is_plain(letter), True)

    def test_words_that_are_plain(self):
        for word in PLAIN:
            self.assertIs(is_plain(word), True, word)

    def test_words_that_are_not_plain(self):
        for word in NOT_PLAIN:
            self.assertIs(is_plain(word), False, word)

    def test_an_end_that_begins_the_word_makes_it_not_plain(self):
        # The end "a" is the front of "aba", and so ahead of it.
        for word in ("aba", "abcab", "aabaa", "bcbbcb"):
            self.assertIs(is_plain(word), False, word)

    def test_every_word_up_to_8_letters(self):
        for length in range(9):
            for word in all_words(length):
                self.assertIs(is_plain(word), expected_plain(word), word)

    def test_somewhat_beyond_8_letters(self):
        self.assertIs(is_plain("aabaabaac"), True)
        self.assertIs(is_plain("aabaabaab"), False)
        self.assertIs(is_plain("a" * 19 + "b"), True)


class CutTest(unittest.TestCase):
    def test_two_letters(self):
        self.assertEqual(cut("ab"), ("a", "b"))
        self.assertEqual(cut("bc"), ("b", "c"))

    def test_the_longest_end_that_is_plain_is_taken(self):
        self.assertEqual(cut("aab"), ("a", "ab"))
        self.assertEqual(cut("abc"), ("a", "bc"))
        self.assertEqual(cut("aabb"), ("a", "abb"))
        self.assertEqual(cut("aabab"), ("aab", "ab"))
        self.assertEqual(cut("abacabb"), ("abac", "abb"))

    def test_an_end_of_one_letter(self):
        self.assertEqual(cut("abb"), ("ab", "b"))
        self.assertEqual(cut("acb"), ("ac", "b"))
        self.assertEqual(cut("abbbbbbb"), ("abbbbbb", "b"))

    def test_plain_words_of_every_length_to_8(self):
        for length in range(2, 9):
            for word in filter(expected_plain, all_words(length)):
                parts = cut(word)
                self.assertEqual(parts, expected_cut(word), word)
                self.assertEqual("".join(parts), word)
                self.assertTrue(expected_plain(parts[0]) and expected_plain(parts[1]), word)

    def test_somewhat_beyond_8_letters(self):
        self.assertEqual(cut("aabaabaac"), ("aab", "aabaac"))

    def test_no_cut_of_the_empty_word(self):
        with self.assertRaises(NoWord):
            cut("")

    def test_no_cut_of_one_letter(self):
        for letter in "abc":
            with self.assertRaises(NoWord):
                cut(letter)

    def test_no_cut_of_a_word_that_is_not_plain(self):
        for word in NOT_PLAIN:
            with self.subTest(word=word), self.assertRaises(NoWord):
                cut(word)

    def test_every_word_up_to_5_letters_that_is_not_plain(self):
        for length in range(6):
            for word in all_words(length):
                if not expected_plain(word):
                    with self.assertRaises(NoWord):
                        cut(word)

    def test_kinds(self):
        parts = cut("aab")
        self.assertIs(type(parts), tuple)
        self.assertEqual([type(part) for part in parts], [str, str])


class PlainBracketTest(unittest.TestCase):
    def test_one_letter(self):
        for letter in "abc":
            self.assertEqual(plain_bracket(letter), letter)

    def test_what_stands_ahead_comes_first(self):
        self.assertEqual(plain_bracket("ab"), ("a", "b"))
        self.assertEqual(plain_bracket("aab"), ("a", ("a", "b")))
        self.assertEqual(plain_bracket("abb"), (("a", "b"), "b"))
        self.assertEqual(plain_bracket("abc"), ("a", ("b", "c")))
        self.assertEqual(plain_bracket("acb"), (("a", "c"), "b"))

    def test_longer_words(self):
        self.assertEqual(plain_bracket("aabb"), ("a", (("a", "b"), "b")))
        self.assertEqual(plain_bracket("abac"), (("a", "b"), ("a", "c")))
        self.assertEqual(plain_bracket("aabab"), (("a", ("a", "b")), ("a", "b")))

    def test_plain_words_of_every_length_to_8(self):
        for length in range(1, 9):
            for word in filter(expected_plain, all_words(length)):
                self.assertEqual(plain_bracket(word), expected_bracket(word), word)

    def test_the_word_stands_once_among_its_words_and_ahead_of_the_others(self):
        for length in range(1, 8):
            for word in filter(expected_plain, all_words(length)):
                self.assertEqual(words_of([(1, plain_bracket(word))])[0], (word, 1))
        for word in ("aaaaaaab", "abbbbbbb", "aabaabab", "abcabcac", "acbacbbc"):
            self.assertEqual(words_of([(1, plain_bracket(word))])[0], (word, 1))

    def test_somewhat_beyond_8_letters(self):
        self.assertEqual(plain_bracket("aabaabaac"), expected_bracket("aabaabaac"))

    def test_no_bracket_of_the_empty_word(self):
        with self.assertRaises(NoWord):
            plain_bracket("")

    def test_no_bracket_of_a_word_that_is_not_plain(self):
        for word in NOT_PLAIN:
            with self.subTest(word=word), self.assertRaises(NoWord):
                plain_bracket(word)


class PlainWordsTest(unittest.TestCase):
    def test_one_letter(self):
        self.assertEqual(plain_words(1, 1), ["a"])
        for length in range(2, 9):
            self.assertEqual(plain_words(1, length), [])

    def test_two_letters(self):
        self.assertEqual(plain_words(2, 1), ["a", "b"])
        self.assertEqual(plain_words(2, 2), ["ab"])
        self.assertEqual(plain_words(2, 3), ["aab", "abb"])
        self.assertEqual(plain_words(2, 4), ["aaab", "aabb", "abbb"])
        self.assertEqual(plain_words(2, 5), ["aaaab", "aaabb", "aabab", "aabbb", "ababb", "abbbb"])

    def test_three_letters(self):
        self.assertEqual(plain_words(3, 1), ["a", "b", "c"])
        self.assertEqual(plain_words(3, 2), ["ab", "ac", "bc"])
        self.assertEqual(plain_words(3, 3), ["aab", "aac", "abb", "abc", "acb", "acc", "bbc", "bcc"])

    def test_all_of_them_in_order(self):
        for letters in (1, 2, 3):
            for length in range(1, 9):
                expected = sorted(filter(expected_plain, all_words(length, "abc"[:letters])))
                self.assertEqual(plain_words(letters, length), expected, (letters, length))

    def test_refused_numbers_of_letters(self):
        for letters in BEYOND + (4, 5, 26, 10 ** 30):
            for length in (1, 2, 8):
                with self.subTest(letters=letters, length=length), self.assertRaises(NoNumber):
                    plain_words(letters, length)

    def test_refused_lengths(self):
        for length in BEYOND + (9, 10, 60, 61, 1000, 10 ** 30):
            for letters in (1, 2, 3):
                with self.subTest(letters=letters, length=length), self.assertRaises(NoNumber):
                    plain_words(letters, length)

    def test_both_refused(self):
        for letters, length in ((0, 0), (4, 9), (-1, 9), (4, 0)):
            with self.assertRaises(NoNumber):
                plain_words(letters, length)

    def test_each_telling_is_a_list_of_its_own(self):
        for letters, length in ((3, 1), (3, 3), (1, 2), (1, 1)):
            first = plain_words(letters, length)
            kept = list(first)
            self.assertIsNot(plain_words(letters, length), first)
            first.append("c")
            first.reverse()
            self.assertEqual(plain_words(letters, length), kept)
            first.clear()
            self.assertEqual(plain_words(letters, length), kept)

    def test_kind(self):
        told = plain_words(2, 3)
        self.assertIs(type(told), list)
        self.assertEqual({type(word) for word in told}, {str})


class HowManyTest(unittest.TestCase):
    def test_known_numbers(self):
        self.assertEqual([how_many(1, n) for n in range(1, 9)], [1, 0, 0, 0, 0, 0, 0, 0])
        self.assertEqual([how_many(2, n) for n in range(1, 13)], [2, 1, 2, 3, 6, 9, 18, 30, 56, 99, 186, 335])
        self.assertEqual([how_many(3, n) for n in range(1, 11)], [3, 3, 8, 18, 48, 116, 312, 810, 2184, 5880])

    def test_agrees_with_the_plain_words(self):
        for letters in (1, 2, 3):
            for length in range(1, 9):
                self.assertEqual(how_many(letters, length), len(plain_words(letters, length)))

    def test_lengths_up_to_60(self):
        for letters in (1, 2, 3):
            for length in range(1, 61):
                self.assertEqual(how_many(letters, length), expected_number(letters, length), (letters, length))

    def test_the_greatest_length(self):
        self.assertEqual(how_many(1, 60), 0)
        self.assertEqual(how_many(2, 60), 19215358392200893)
        self.assertEqual(how_many(3, 60), 706519304586933293661251376)

    def test_refused_numbers_of_letters(self):
        for letters in BEYOND + (4, 5, 26, 10 ** 30):
            for length in (1, 2, 8, 60):
                with self.subTest(letters=letters, length=length), self.assertRaises(NoNumber):
                    how_many(letters, length)

    def test_refused_lengths(self):
        for length in BEYOND + (61, 62, 1000, 10 ** 30):
            for letters in (1, 2, 3):
                with self.subTest(letters=letters, length=length), self.assertRaises(NoNumber):
                    how_many(letters, length)

    def test_both_refused(self):
        for letters, length in ((0, 0), (4, 61), (-1, 61), (4, 0)):
            with self.assertRaises(NoNumber):
                how_many(letters, length)

    def test_kind(self):
        self.assertIs(type(how_many(3, 7)), int)
        self.assertIs(type(how_many(1, 7)), int)


class NamesTest(unittest.TestCase):
    def test_arguments_by_their_names(self):
        self.assertIs(is_plain(word="ab"), True)
        self.assertEqual(cut(word="ab"), ("a", "b"))
        self.assertEqual(plain_bracket(word="ab"), ("a", "b"))
        self.assertEqual(plain_words(letters=2, length=2), ["ab"])
        self.assertEqual(how_many(letters=2, length=2), 1)


if __name__ == "__main__":
    unittest.main()
