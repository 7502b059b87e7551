import copy
import itertools
import math
import unittest

from oracle import brackets_of_weight, expected_words, nested_left, nested_right
from twistbrackets.brackets import weight, words_of

AB = ("a", "b")
BALANCED_8 = ((("a", "b"), ("b", "c")), (("c", "a"), ("a", "b")))


class WeightTest(unittest.TestCase):
    def test_letters(self):
        for letter in "abc":
            self.assertEqual(weight(letter), 1)

    def test_two_letters(self):
        self.assertEqual(weight(("a", "b")), 2)

    def test_a_letter_counts_each_time_it_stands_there(self):
        self.assertEqual(weight(("a", "a")), 2)
        self.assertEqual(weight((("a", "a"), ("a", "a"))), 4)
        self.assertEqual(weight((("c", "b"), ("c", ("b", "c")))), 5)

    def test_a_tuple_that_stands_twice_counts_twice(self):
        self.assertEqual(weight((AB, AB)), 4)

    def test_nested_to_either_side(self):
        for size in range(1, 9):
            with self.subTest(size=size):
                self.assertEqual(weight(nested_left("a", "b" * (size - 1))), size)
                self.assertEqual(weight(nested_right("b" * (size - 1), "a")), size)

    def test_both_sides_are_weighed(self):
        self.assertEqual(weight((nested_left("a", "bc"), nested_right("cba", "c"))), 7)

    def test_weight_8(self):
        self.assertEqual(weight(BALANCED_8), 8)

    def test_somewhat_beyond_8_is_not_refused(self):
        self.assertEqual(weight((BALANCED_8, "a")), 9)
        self.assertEqual(weight((BALANCED_8, BALANCED_8)), 16)

    def test_kind(self):
        self.assertIs(type(weight("a")), int)
        self.assertIs(type(weight(AB)), int)


class WordsOfBracketTest(unittest.TestCase):
    def test_one_letter(self):
        for letter in "abc":
            self.assertEqual(words_of([(1, letter)]), [(letter, 1)])

    def test_two_letters_with_both_signs(self):
        self.assertEqual(words_of([(1, ("a", "b"))]), [("ab", 1), ("ba", -1)])
        self.assertEqual(words_of([(1, ("b", "a"))]), [("ab", -1), ("ba", 1)])

    def test_nested_right(self):
        self.assertEqual(
            words_of([(1, ("a", ("b", "c")))]),
            [("abc", 1), ("acb", -1), ("bca", -1), ("cba", 1)],
        )

    def test_nested_left(self):
        self.assertEqual(
            words_of([(1, (("a", "b"), "c"))]),
            [("abc", 1), ("bac", -1), ("cab", -1), ("cba", 1)],
        )

    def test_nested_on_both_sides(self):
        self.assertEqual(
            words_of([(1, (("a", "b"), ("a", "c")))]),
            [
                ("abac", 1), ("abca", -1), ("acab", -1), ("acba", 1),
                ("baac", -1), ("baca", 1), ("caab", 1), ("caba", -1),
            ],
        )

    def test_words_that_meet_within_a_bracket_are_told_once(self):
        self.assertEqual(
            words_of([(1, ("a", ("a", "b")))]),
            [("aab", 1), ("aba", -2), ("baa", 1)],
        )

    def test_words_that_cancel_within_a_bracket_are_not_told(self):
        # abab comes up with either sign, and so does each other word of it.
        self.assertEqual(words_of([(1, (("a", "b"), ("b", "a")))]), [])
        # Here abba alone comes up with either sign.
        self.assertEqual(
            words_of([(1, ("a", (("a", "b"), "b")))]),
            [("aabb", 1), ("abab", -2), ("baba", 2), ("bbaa", -1)],
        )

    def test_brackets_that_are_nought_tell_no_word(self):
        twice = (("a", "b"), "c")
        for nought in [("a", "a"), (AB, AB), (twice, twice), (("b", "b"), "a"), ("c", ("a", "a"))]:
            with self.subTest(nought=nought):
                self.assertEqual(words_of([(1, nought)]), [])
                self.assertEqual(words_of([(-7, nought)]), [])

    def test_weight_8_nested_to_either_side(self):
        chosen = [math.comb(7, k) * (-1) ** k for k in range(8)]
        words = [("b" * k + "a" + "b" * (7 - k), chosen[k]) for k in range(8)]
        self.assertEqual(words_of([(1, nested_left("a", "bbbbbbb"))]), words)
        # Each of the seven tuples turned round turns the sign.
        turned = [(word, -count) for word, count in words]
        self.assertEqual(words_of([(1, nested_right("bbbbbbb", "a"))]), turned)

    def test_weight_8_balanced(self):
        self.assertEqual(words_of([(1, BALANCED_8)]), expected_words([(1, BALANCED_8)]))
        self.assertGreater(len(words_of([(1, BALANCED_8)])), 32)

    def test_weight_8_with_a_part_that_is_nought(self):
        bracket = ((("a", "b"), ("b", "c")), (("c", "a"), ("a", "c")))
        self.assertEqual(weight(bracket), 8)
        self.assertEqual(words_of([(1, bracket)]), [])

    def test_every_bracket_up_to_weight_4(self):
        for size in range(1, 5):
            for bracket in brackets_of_weight(size):
                self.assertEqual(words_of([(1, bracket)]), expected_words([(1, bracket)]), bracket)

    def test_somewhat_beyond_weight_8_is_not_refused(self):
        bracket = nested_left("a", "bcabcbac")
        self.assertEqual(words_of([(1, bracket)]), expected_words([(1, bracket)]))


class WordsOfSumTest(unittest.TestCase):
    def test_the_empty_sum(self):
        self.assertEqual(words_of([]), [])

    def test_counts_of_either_sign(self):
        self.assertEqual(words_of([(3, AB)]), [("ab", 3), ("ba", -3)])
        self.assertEqual(words_of([(-3, AB)]), [("ab", -3), ("ba", 3)])

    def test_the_count_0(self):
        self.assertEqual(words_of([(0, "a")]), [])
        self.assertEqual(words_of([(0, AB)]), [])
        self.assertEqual(words_of([(0, AB), (2, "c"), (0, "c")]), [("c", 2)])

    def test_counts_of_many_figures(self):
        for figures in (30, 31, 70):
            least = 10 ** (figures - 1)
            greatest = 10 ** figures - 1
            with self.subTest(figures=figures):
                for count in (least, greatest, greatest - 1):
                    self.assertEqual(words_of([(count, AB)]), [("ab", count), ("ba", -count)])
                    self.assertEqual(words_of([(-count, AB)]), [("ab", -count), ("ba", count)])
                self.assertEqual(
                    words_of([(greatest, ("a", ("a", "b")))]),
                    [("aab", greatest), ("aba", -2 * greatest), ("baa", greatest)],
                )

    def test_great_counts_that_all_but_cancel(self):
        count = 10 ** 70 - 1
        self.assertEqual(words_of([(count, "a"), (1 - count, "a")]), [("a", 1)])
        self.assertEqual(words_of([(count, AB), (count, ("b", "a"))]), [])

    def test_somewhat_beyond_70_figures_is_not_refused(self):
        count = 10 ** 80 + 1
        self.assertEqual(words_of([(count, "b")]), [("b", count)])

    def test_equal_brackets_are_put_together(self):
        self.assertEqual(words_of([(2, AB), (3, AB)]), [("ab", 5), ("ba", -5)])

    def test_words_that_cancel_across_tuples_are_not_told(self):
        self.assertEqual(words_of([(2, "a"), (-2, "a")]), [])
        self.assertEqual(words_of([(1, ("a", "b")), (1, ("b", "a"))]), [])
        self.assertEqual(
            words_of([(1, ("a", ("b", "c"))), (1, ("b", ("c", "a"))), (1, ("c", ("a", "b")))]),
            [],
        )

    def test_only_some_words_cancel_across_tuples(self):
        self.assertEqual(
            words_of([(1, ("a", ("b", "c"))), (-1, (("a", "b"), "c"))]),
            [("acb", -1), ("bac", 1), ("bca", -1), ("cab", 1)],
        )

    def test_order_is_by_length_and_then_as_texts(self):
        self.assertEqual(
            words_of([(1, ("a", ("a", "b"))), (4, ("c", "b")), (5, "c"), (6, "a"), (7, ("a", "b"))]),
            [
                ("a", 6), ("c", 5),
                ("ab", 7), ("ba", -7), ("bc", -4), ("cb", 4),
                ("aab", 1), ("aba", -2), ("baa", 1),
            ],
        )

    def test_order_does_not_hang_on_the_order_of_the_tuples(self):
        total = [(2, "b"), (1, "a"), (-1, ("c", "a")), (3, ("b", ("a", "c")))]
        told = words_of(total)
        for turned in itertools.permutations(total):
            self.assertEqual(words_of(list(turned)), told)

    def test_twelve_tuples(self):
        letters = ["a", "b", "c"]
        total = [(10 ** k, letters[k % 3]) for k in range(12)]
        self.assertEqual(words_of(total), [("a", 1001001001), ("b", 10010010010), ("c", 100100100100)])

    def test_twelve_tuples_of_weight_8(self):
        total = []
        for k in range(12):
            turn = ("abc" * 5)[k % 3:][:8]
            bracket = nested_left(turn[0], turn[1:]) if k % 2 else nested_right(turn[:7], turn[7])
            total.append(((-1) ** k * (10 ** 69 + k), bracket))
        self.assertEqual([weight(bracket) for count, bracket in total], [8] * 12)
        self.assertEqual(words_of(total), expected_words(total))
        self.assertGreater(len(words_of(total)), 100)

    def test_somewhat_beyond_twelve_tuples_is_not_refused(self):
        self.assertEqual(words_of([(1, AB)] * 15), [("ab", 15), ("ba", -15)])

    def test_kinds(self):
        told = words_of([(1, AB), (2, "c")])
        self.assertIs(type(told), list)
        for entry in told:
            self.assertIs(type(entry), tuple)
            self.assertEqual([type(part) for part in entry], [str, int])


class OwnTest(unittest.TestCase):
    def total(self):
        return [(2, AB), (0, "c"), (-2, ("a", ("b", "c"))), (1, "a"), (5, ("a", "a"))]

    def test_what_is_handed_in_stays_as_it_was(self):
        total = self.total()
        before = copy.deepcopy(total)
        words_of(total)
        self.assertEqual(total, before)
        bracket = (("a", "b"), ("c", ("a", "b")))
        weight(bracket)
        self.assertEqual(bracket, (("a", "b"), ("c", ("a", "b"))))

    def test_changing_what_was_told_changes_nothing_told_later(self):
        for total in (self.total(), []):
            first = words_of(total)
            kept = list(first)
            first.append(("c", 99))
            first.reverse()
            self.assertEqual(words_of(total), kept)
            first.clear()
            self.assertEqual(words_of(total), kept)

    def test_each_telling_is_a_list_of_its_own(self):
        for total in (self.total(), []):
            first = words_of(total)
            second = words_of(total)
            self.assertIsNot(first, second)
            self.assertIsNot(first, total)

    def test_changing_what_was_handed_in_changes_nothing_told_before(self):
        total = self.total()
        told = words_of(total)
        kept = list(told)
        total.append((9, "b"))
        self.assertEqual(told, kept)
        total.clear()
        self.assertEqual(told, kept)

    def test_nothing_hangs_on_what_was_handed_in_earlier(self):
        total = self.total()
        words_of(total)
        total[:] = [(1, "b")]
        self.assertEqual(words_of(total), [("b", 1)])
        total.append((1, "c"))
        self.assertEqual(words_of(total), [("b", 1), ("c", 1)])


if __name__ == "__main__":
    unittest.main()
