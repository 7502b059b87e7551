import contextlib
import copy
import itertools
import signal
import unittest

from oracle import (
    all_words, brackets_of_weight, expected_bracket, expected_plain, expected_words, faults_of_plain_sum,
    nested_left, nested_right, sum_of_plain_brackets,
)
from twistbrackets.brackets import weight, words_of
from twistbrackets.errors import NoSum, TooGreat
from twistbrackets.sums import bracket_of, gathered, plain_sum, put_in, same

A = [(1, "a")]
B = [(1, "b")]
C = [(1, "c")]
AB = ("a", "b")
ABC = ("a", ("b", "c"))
BALANCED_8 = ((("a", "b"), ("b", "c")), (("c", "a"), ("a", "b")))
GREAT = 10 ** 70 - 1


def of_weight(size):
    return nested_left("a", "bcabcab"[:size - 1])


def twelve_of_weight_8():
    total = []
    for k in range(12):
        turn = ("abcbacbc" * 2)[k % 8:][:8]
        bracket = nested_left(turn[0], turn[1:]) if k % 2 else nested_right(turn[:7], turn[7])
        total.append(((-1) ** k * (10 ** 69 + k), bracket))
    return total


@contextlib.contextmanager
def ends_within(seconds):
    def stop(number, frame):
        raise AssertionError(f"it takes longer than {seconds} seconds")

    before = signal.signal(signal.SIGALRM, stop)
    signal.alarm(seconds)
    try:
        yield
    finally:
        signal.alarm(0)
        signal.signal(signal.SIGALRM, before)


def put(bracket, sums):
    """The tuples of a bracket with sums in the places of its letters, by the first rule of [4] alone."""
    if isinstance(bracket, str):
        return list(sums[bracket])
    return [
        (count * other_count, (one, other))
        for count, one in put(bracket[0], sums)
        for other_count, other in put(bracket[1], sums)
    ]


def expected_put_in(total, a, b, c):
    sums = {"a": a, "b": b, "c": c}
    return [(times * count, inner) for times, bracket in total for count, inner in put(bracket, sums)]


class SumsTest(unittest.TestCase):
    def assert_plain_sum(self, plain, total):
        self.assertEqual(faults_of_plain_sum(plain, expected_words(total)), [], (plain, total))


class PlainSumTest(SumsTest):
    def test_the_empty_sum(self):
        self.assertEqual(plain_sum([]), [])

    def test_a_letter(self):
        for letter in "abc":
            self.assertEqual(plain_sum([(1, letter)]), [(1, letter)])

    def test_a_plain_bracket_is_its_word(self):
        for length in range(1, 9):
            for word in filter(expected_plain, all_words(length, "ab")):
                self.assertEqual(plain_sum([(5, expected_bracket(word))]), [(5, word)])
        for length in range(1, 6):
            for word in filter(expected_plain, all_words(length)):
                self.assertEqual(plain_sum([(-1, expected_bracket(word))]), [(-1, word)])

    def test_a_bracket_turned_round(self):
        self.assertEqual(plain_sum([(1, ("b", "a"))]), [(-1, "ab")])
        self.assertEqual(plain_sum([(4, ("c", "b"))]), [(-4, "bc")])

    def test_brackets_of_weight_3(self):
        self.assertEqual(plain_sum([(1, (("a", "b"), "c"))]), [(1, "abc"), (1, "acb")])
        self.assertEqual(plain_sum([(1, ("b", ("c", "a")))]), [(1, "acb")])
        self.assertEqual(plain_sum([(1, ("c", ("a", "b")))]), [(-1, "abc"), (-1, "acb")])
        self.assertEqual(plain_sum([(1, ("b", ("a", "b")))]), [(-1, "abb")])

    def test_a_bracket_of_weight_4(self):
        self.assertEqual(
            plain_sum([(1, ("c", ("b", ("a", "b"))))]),
            [(1, "abbc"), (2, "abcb"), (1, "acbb")],
        )

    def test_a_word_that_only_comes_up_while_gathering(self):
        # The word acb is not among the words of the sum, and yet its plain bracket is needed.
        one, other = expected_bracket("abc"), expected_bracket("acb")
        total = [(1, one), (1, other)]
        self.assertNotIn("acb", [word for word, count in words_of(total)])
        self.assertEqual(plain_sum(total), [(1, "abc"), (1, "acb")])

    def test_brackets_that_are_nought(self):
        for nought in [
            ("a", "a"), (AB, AB), (ABC, ABC), (("b", "b"), "a"), ("c", ("a", "a")),
            ((of_weight(4), of_weight(4))), (("a", "b"), ("b", "a")),
        ]:
            with self.subTest(nought=nought):
                self.assertEqual(plain_sum([(1, nought)]), [])
                self.assertEqual(plain_sum([(-7, nought), (2, "c")]), [(2, "c")])

    def test_sums_whose_words_cancel(self):
        self.assertEqual(plain_sum([(2, "a"), (-2, "a")]), [])
        self.assertEqual(plain_sum([(1, ABC), (-1, ABC), (3, "b")]), [(3, "b")])
        self.assertEqual(plain_sum([(GREAT, BALANCED_8), (-GREAT, BALANCED_8)]), [])

    def test_counts_of_either_sign(self):
        self.assertEqual(plain_sum([(3, AB), (-2, "a"), (-5, ("b", "c"))]), [(-2, "a"), (3, "ab"), (-5, "bc")])

    def test_the_count_0(self):
        self.assertEqual(plain_sum([(0, "a")]), [])
        self.assertEqual(plain_sum([(0, BALANCED_8), (2, "c"), (0, "c")]), [(2, "c")])

    def test_counts_of_many_figures(self):
        for count in (10 ** 29, 10 ** 30 - 1, 10 ** 69, GREAT, 10 ** 80 + 1):
            self.assertEqual(plain_sum([(count, ("b", "a"))]), [(-count, "ab")])
            self.assertEqual(plain_sum([(count, (AB, "c"))]), [(count, "abc"), (count, "acb")])
            self.assertEqual(plain_sum([(count, "a"), (1 - count, "a")]), [(1, "a")])

    def test_order_is_by_length_and_then_as_texts(self):
        total = [(1, ("a", AB)), (4, ("c", "b")), (5, "c"), (6, "b"), (7, AB), (8, ABC)]
        told = [(6, "b"), (5, "c"), (7, "ab"), (-4, "bc"), (1, "aab"), (8, "abc")]
        for turned in itertools.permutations(total):
            self.assertEqual(plain_sum(list(turned)), told)

    def test_every_bracket_up_to_weight_4(self):
        for size in range(1, 5):
            for bracket in brackets_of_weight(size):
                self.assert_plain_sum(plain_sum([(1, bracket)]), [(1, bracket)])

    def test_weight_8(self):
        for bracket in [
            BALANCED_8, nested_left("c", "babcaab"), nested_right("cbacbac", "a"),
            (nested_left("b", "ac"), nested_right("cabb", "a")), ((ABC, "c"), (("b", AB), "c")),
        ]:
            self.assertEqual(weight(bracket), 8)
            self.assert_plain_sum(plain_sum([(-3, bracket)]), [(-3, bracket)])

    def test_twelve_tuples_of_weight_8(self):
        total = twelve_of_weight_8()
        self.assertEqual([weight(bracket) for count, bracket in total], [8] * 12)
        told = plain_sum(total)
        self.assert_plain_sum(told, total)
        self.assertGreater(len(told), 12)

    def test_twelve_tuples_of_several_weights(self):
        total = [(k - 5, nested_right("cabbacb"[:k % 8], "a")) for k in range(12)]
        self.assert_plain_sum(plain_sum(total), total)

    def test_somewhat_beyond_the_bounds(self):
        self.assertEqual(plain_sum([(1, AB)] * 15), [(15, "ab")])
        bracket = nested_left("b", "caabcabca")
        self.assert_plain_sum(plain_sum([(2, bracket)]), [(2, bracket)])

    def test_the_plain_sum_of_a_plain_sum_is_itself(self):
        told = plain_sum(twelve_of_weight_8())
        self.assertEqual(plain_sum(sum_of_plain_brackets(told)), told)


class RulesTest(SumsTest):
    """The rules of point [4], alone and within longer brackets and sums."""

    parts = ("a", "c", AB, ("c", "a"), ABC, (AB, "b"), ("a", "a"))

    def around(self, bracket):
        return [
            bracket, (bracket, "b"), ("c", bracket), ((bracket, "a"), "b"), ("b", ("c", bracket)),
            (("a", "c"), (bracket, "b")),
        ]

    def assert_nought_within(self, brackets, count):
        """The brackets put together are nought, alone and with the same around each of them."""
        for wrapped in zip(*map(self.around, brackets)):
            total = [(count, bracket) for bracket in wrapped]
            self.assertEqual(plain_sum(total), [])
            self.assertTrue(same(total, []))
            self.assertEqual(plain_sum([(2, "b")] + total + [(1, ABC)]), [(2, "b"), (1, "abc")])
            self.assertTrue(same([(2, "b")] + total, [(2, "b")]))

    def test_a_bracket_with_itself_is_nought(self):
        for x in self.parts:
            self.assert_nought_within([(x, x)], 3)

    def test_a_bracket_and_the_one_turned_round_are_nought(self):
        for x, y in itertools.product(self.parts, repeat=2):
            self.assert_nought_within([(x, y), (y, x)], -2)

    def test_three_turned_brackets_are_nought(self):
        for x, y, z in itertools.product(self.parts[:5], repeat=3):
            self.assert_nought_within([(x, (y, z)), (y, (z, x)), (z, (x, y))], 5)

    def test_two_of_the_three_are_not_nought(self):
        self.assertEqual(plain_sum([(1, ABC), (1, ("b", ("c", "a")))]), [(1, "abc"), (1, "acb")])

    def test_a_bracket_of_sums_is_the_sum_of_the_brackets(self):
        one = [(2, "a"), (-3, AB), (0, "c"), (5, ABC)]
        other = [(7, "c"), (1, (AB, "c")), (-1, "b")]
        brackets = [(m * n, (x, y)) for m, x in one for n, y in other]
        self.assertEqual(bracket_of(one, other), plain_sum(brackets))
        self.assert_plain_sum(bracket_of(one, other), brackets)


class SameTest(unittest.TestCase):
    def assert_same(self, one, other, expected):
        self.assertIs(same(one, other), expected)
        self.assertIs(same(other, one), expected)

    def test_the_empty_sum(self):
        self.assert_same([], [], True)
        self.assert_same([], A, False)
        self.assert_same([], [(0, "a")], True)
        self.assert_same([], [(1, ("a", "a"))], True)
        self.assert_same([], [(1, AB), (1, ("b", "a"))], True)
        self.assert_same([], [(1, AB), (-1, ("b", "a"))], False)

    def test_a_sum_and_itself(self):
        total = twelve_of_weight_8()
        self.assert_same(total, total, True)
        self.assert_same(total, list(reversed(total)), True)

    def test_a_bracket_turned_round(self):
        self.assert_same([(1, AB)], [(-1, ("b", "a"))], True)
        self.assert_same([(1, AB)], [(1, ("b", "a"))], False)

    def test_the_three_turned_brackets(self):
        one = [(1, ABC)]
        other = [(-1, ("b", ("c", "a"))), (-1, ("c", ("a", "b")))]
        self.assert_same(one, other, True)
        self.assert_same(one, other[:1], False)

    def test_equal_brackets_put_together(self):
        self.assert_same([(2, ABC), (3, ABC)], [(5, ABC)], True)

    def test_sums_that_differ_by_one_count(self):
        total = twelve_of_weight_8()
        for place in range(len(total)):
            changed = list(total)
            changed[place] = (total[place][0] + 1, total[place][1])
            self.assert_same(total, changed, False)
        self.assert_same([(GREAT, "a")], [(GREAT - 1, "a")], False)
        self.assert_same([(GREAT, "a")], [(-GREAT, "a")], False)

    def test_sums_that_differ_by_one_letter(self):
        self.assert_same([(1, "a")], [(1, "b")], False)
        self.assert_same([(1, ABC)], [(1, ("a", ("b", "b")))], False)
        self.assert_same([(1, (AB, "c"))], [(1, (AB, "b"))], False)
        self.assert_same([(1, BALANCED_8)], [(1, (BALANCED_8[0], (("c", "a"), ("a", "c"))))], False)

    def test_sums_that_differ_by_one_tuple(self):
        self.assert_same([(1, AB), (1, "c")], [(1, AB)], False)

    def test_a_sum_and_its_plain_brackets(self):
        for size in range(1, 5):
            for bracket in brackets_of_weight(size):
                total = [(3, bracket)]
                self.assertIs(same(total, sum_of_plain_brackets(plain_sum(total))), True)

    def test_same_just_where_the_plain_sums_are(self):
        brackets = brackets_of_weight(3)
        for one, other in itertools.product(brackets, repeat=2):
            alike = plain_sum([(1, one)]) == plain_sum([(1, other)])
            self.assertIs(same([(1, one)], [(1, other)]), alike)


class BracketOfTest(SumsTest):
    def test_letters(self):
        self.assertEqual(bracket_of(A, B), [(1, "ab")])
        self.assertEqual(bracket_of(B, A), [(-1, "ab")])
        self.assertEqual(bracket_of(C, B), [(-1, "bc")])

    def test_counts_are_multiplied(self):
        self.assertEqual(bracket_of([(2, "a")], [(-3, "b")]), [(-6, "ab")])
        self.assertEqual(bracket_of([(GREAT, "a")], [(GREAT, "b")]), [(GREAT * GREAT, "ab")])
        self.assertEqual(bracket_of([(2, "a"), (3, "b")], [(5, "a"), (7, "b")]), [(-1, "ab")])

    def test_an_empty_sum_on_either_side(self):
        for total in ([], A, [(1, BALANCED_8)], [(1, (BALANCED_8, "a"))], twelve_of_weight_8()):
            self.assertEqual(bracket_of([], total), [])
            self.assertEqual(bracket_of(total, []), [])

    def test_a_sum_with_itself(self):
        for total in (A, [(2, AB), (3, "c"), (-1, ABC)], [(1, of_weight(4)), (7, "b")]):
            self.assertEqual(bracket_of(total, total), [])
            self.assertEqual(bracket_of(total, list(total)), [])

    def test_either_way_round(self):
        one = [(2, AB), (3, "c")]
        other = [(1, ABC), (-4, "a")]
        turned = [(-count, word) for count, word in bracket_of(other, one)]
        self.assertEqual(bracket_of(one, other), turned)

    def test_greatest_weights_of_together_8(self):
        for size in range(1, 8):
            one, other = [(2, of_weight(size)), (1, "c")], [(3, "b"), (5, of_weight(8 - size))]
            brackets = [(m * n, (x, y)) for m, x in one for n, y in other]
            self.assert_plain_sum(bracket_of(one, other), brackets)

    def test_greatest_weights_of_together_9(self):
        for size in range(1, 9):
            one, other = [(2, of_weight(size)), (1, "c")], [(3, "b"), (5, of_weight(9 - size))]
            with self.assertRaises(TooGreat):
                bracket_of(one, other)

    def test_far_too_great(self):
        with self.assertRaises(TooGreat):
            bracket_of(twelve_of_weight_8(), twelve_of_weight_8())

    def test_a_bracket_with_the_count_0_makes_it_too_great(self):
        for one, other in [
            ([(1, "a"), (0, of_weight(8))], B),
            ([(0, of_weight(5)), (1, "a")], [(1, of_weight(4))]),
            ([(0, of_weight(8))], [(0, "a")]),
        ]:
            with self.assertRaises(TooGreat):
                bracket_of(one, other)
            with self.assertRaises(TooGreat):
                bracket_of(other, one)

    def test_a_bracket_with_the_count_0_of_together_8(self):
        self.assertEqual(bracket_of([(1, "a"), (0, of_weight(7))], B), [(1, "ab")])
        self.assertEqual(bracket_of([(0, of_weight(7))], B), [])

    def test_a_bracket_that_is_nought_makes_it_too_great(self):
        nought = (of_weight(4), of_weight(4))
        with self.assertRaises(TooGreat):
            bracket_of([(1, nought)], A)
        with self.assertRaises(TooGreat):
            bracket_of([(1, of_weight(5))], [(1, of_weight(5))])

    def test_tuples_that_cancel_make_it_too_great(self):
        with self.assertRaises(TooGreat):
            bracket_of([(1, of_weight(8)), (-1, of_weight(8))], A)

    def test_twelve_tuples_each(self):
        one = [(k + 1, nested_left("abc"[k % 3], "bca"[:k % 4])) for k in range(12)]
        other = [(GREAT - k, nested_right("cab"[:k % 4], "abc"[k % 3])) for k in range(12)]
        brackets = [(m * n, (x, y)) for m, x in one for n, y in other]
        self.assert_plain_sum(bracket_of(one, other), brackets)


class PutInTest(SumsTest):
    def test_letters_for_themselves(self):
        for total in ([], A, [(2, AB), (-3, ABC), (0, "c")], twelve_of_weight_8()):
            self.assertEqual(put_in(total, A, B, C), plain_sum(total))

    def test_each_letter_has_its_own_sum(self):
        one, other, third = [(2, AB)], [(3, ("b", "c"))], [(5, "b")]
        self.assertEqual(put_in(A, one, other, third), [(2, "ab")])
        self.assertEqual(put_in(B, one, other, third), [(3, "bc")])
        self.assertEqual(put_in(C, one, other, third), [(5, "b")])

    def test_letters_for_other_letters(self):
        self.assertEqual(put_in([(1, ABC)], B, C, A), [(1, "acb")])
        self.assertEqual(put_in([(1, AB)], B, A, C), [(-1, "ab")])
        self.assertEqual(put_in([(1, AB)], A, A, C), [])

    def test_all_places_are_put_in_at_once(self):
        # What is put in has letters of its own, and nothing is put in their places.
        self.assertEqual(put_in([(1, AB)], [(1, ("b", "c"))], [(1, ("a", "c"))], []), [(-1, "acbc")])

    def test_counts_are_multiplied(self):
        self.assertEqual(put_in([(7, ("a", AB))], [(2, "a")], [(-3, "b")], C), [(-84, "aab")])
        self.assertEqual(put_in([(GREAT, AB)], [(GREAT, "a")], [(GREAT, "b")], []), [(GREAT ** 3, "ab")])

    def test_sums_of_several_tuples(self):
        total = [(2, ABC), (-1, (AB, "b")), (3, "c")]
        sums = ([(1, "a"), (2, "b")], [(1, AB), (-1, "c")], [(4, "a"), (0, ABC), (1, ("c", "b"))])
        self.assert_plain_sum(put_in(total, *sums), expected_put_in(total, *sums))

    def test_the_empty_sum_put_in(self):
        for letter in "abc":
            self.assertEqual(put_in([(1, letter)], [], [], []), [])
        self.assertEqual(put_in([(1, ABC), (2, AB), (3, "c")], A, B, []), [(2, "ab")])
        self.assertEqual(put_in([(1, ABC), (2, AB), (3, "c")], A, [], C), [(3, "c")])
        self.assertEqual(put_in([(1, ABC), (2, AB), (3, "c")], [], B, C), [(3, "c")])

    def test_the_empty_sum_as_total(self):
        self.assertEqual(put_in([], A, B, C), [])
        self.assertEqual(put_in([], [], [], []), [])
        self.assertEqual(put_in([], *[twelve_of_weight_8()] * 3), [])

    def test_weight_8_is_not_too_great(self):
        four = [(1, of_weight(4)), (2, "c")]
        other = [(3, nested_right("bca", "b")), (-1, "a")]
        total = [(1, AB), (5, "a")]
        self.assert_plain_sum(put_in(total, four, other, []), expected_put_in(total, four, other, []))
        eight = [(1, BALANCED_8)]
        self.assert_plain_sum(put_in([(-2, "b")], [], eight, []), [(-2, BALANCED_8)])
        twos = ([(1, AB)], [(1, ("b", "c"))], [(1, ("a", "c"))])
        deep = [(1, (ABC, "b"))]
        self.assert_plain_sum(put_in(deep, *twos), expected_put_in(deep, *twos))

    def test_just_above_8(self):
        with self.assertRaises(TooGreat):
            put_in([(1, AB)], [(1, of_weight(4))], [(1, of_weight(5))], [])
        with self.assertRaises(TooGreat):
            put_in([(1, "a"), (1, (ABC, AB))], [(1, AB)], [(1, AB)], A)
        with self.assertRaises(TooGreat):
            put_in([(1, of_weight(8))], A, B, [(1, AB)])
        with self.assertRaises(TooGreat):
            put_in([(1, (of_weight(8), "a"))], A, B, C)
        with self.assertRaises(TooGreat):
            put_in(A, [(1, (of_weight(8), "a"))], [], [])

    def test_far_above_8(self):
        for total in (twelve_of_weight_8(), [(1, AB)]):
            with self.assertRaises(TooGreat):
                put_in(total, *[twelve_of_weight_8()] * 3)

    def test_the_greatest_weight_of_a_sum_is_looked_at_wherever_it_stands(self):
        five = (1, of_weight(5))
        for sums in ([five, (1, "a")], [(1, "a"), five], [(1, "a"), five, (1, AB)]):
            with self.assertRaises(TooGreat):
                put_in([(1, AB)], sums, [(1, of_weight(4))], [])

    def test_each_bracket_is_looked_at_by_itself(self):
        # Four and five letters, in two brackets: the weights of one are not those of the other.
        total = [(1, "a"), (1, "b"), (1, ("a", "c"))]
        sums = ([(1, of_weight(4))], [(1, of_weight(5))], [(1, of_weight(4))])
        self.assert_plain_sum(put_in(total, *sums), expected_put_in(total, *sums))
        for turned in itertools.permutations([(1, "a"), (1, ("b", "c")), (1, "b")]):
            with self.assertRaises(TooGreat):
                put_in(list(turned), *sums)

    def test_the_count_0_in_a_sum_put_in_is_looked_at(self):
        with self.assertRaises(TooGreat):
            put_in([(1, AB)], [(1, "a"), (0, of_weight(8))], B, [])
        with self.assertRaises(TooGreat):
            put_in([(1, AB)], A, [(0, of_weight(8))], [])
        self.assertEqual(put_in([(1, AB)], [(1, "a"), (0, of_weight(7))], B, []), [(1, "ab")])
        self.assertEqual(put_in([(1, AB)], [(0, of_weight(7))], B, []), [])

    def test_a_bracket_with_the_count_0_in_the_sum_is_looked_at(self):
        with self.assertRaises(TooGreat):
            put_in([(1, "a"), (0, AB)], [(1, of_weight(4))], [(1, of_weight(5))], [])
        self.assertEqual(put_in([(1, "b"), (0, AB)], [(1, of_weight(4))], B, []), [(1, "b")])

    def test_a_bracket_that_is_nought_is_looked_at(self):
        with self.assertRaises(TooGreat):
            put_in([(1, ("a", "a"))], [(1, of_weight(5))], [], [])
        with self.assertRaises(TooGreat):
            put_in([(1, AB)], [(1, (of_weight(4), of_weight(4)))], B, [])
        with self.assertRaises(TooGreat):
            put_in([(1, AB), (-1, AB)], [(1, of_weight(8))], B, [])

    def test_a_sum_of_the_count_0_is_not_an_empty_sum(self):
        with self.assertRaises(TooGreat):
            put_in([(1, AB)], [(0, "a")], [(1, of_weight(8))], [])

    def test_a_bracket_with_an_empty_sum_is_not_looked_at(self):
        eight = twelve_of_weight_8()
        for bracket in [AB, ("b", "a"), (("b", "b"), "a"), ("a", ("b", ("b", "b"))), (("b", AB), ("b", "b"))]:
            self.assertEqual(put_in([(1, bracket)], [], eight, []), [])
            self.assertEqual(put_in([(1, bracket), (2, "c")], [], eight, C), [(2, "c")])

    def test_a_bracket_with_an_empty_sum_hides_no_other(self):
        with self.assertRaises(TooGreat):
            put_in([(1, AB), (1, ("b", "c"))], [], [(1, of_weight(8))], C)

    def test_a_deep_bracket_with_an_empty_sum_is_told_at_once(self):
        # With the words of its other parts reckoned out this would not come to an end.
        other, third = [(1, BALANCED_8)], [(1, nested_left("a", "bcbacab"))]
        with ends_within(5):
            self.assertEqual(put_in([(1, nested_left("b", "cbcbcba"))], [], other, third), [])

    def test_far_above_8_is_refused_at_once(self):
        other, third = [(1, BALANCED_8)], [(1, nested_left("a", "bcbacab"))]
        with ends_within(5), self.assertRaises(TooGreat):
            put_in([(1, nested_left("b", "cbcbcbc"))], [], other, third)

    def test_a_sum_that_is_not_asked_for_is_not_looked_at(self):
        self.assertEqual(put_in([(1, AB)], A, B, [(1, of_weight(8))]), [(1, "ab")])
        self.assertEqual(put_in([(1, AB)], A, B, [(1, (of_weight(8), "a"))]), [(1, "ab")])

    def test_twelve_brackets_of_weight_8_with_all_letters_each(self):
        total = twelve_of_weight_8()
        sums = ([(3, "a"), (5, "b")], [(2, "a"), (-1, "c")], [(1, "b"), (4, "c")])
        self.assert_plain_sum(put_in(total, *sums), expected_put_in(total, *sums))

    def test_puts_into_a_bracket_of_sums(self):
        one, other = [(2, "a"), (1, ("b", "c"))], [(1, AB), (-3, "c")]
        brackets = [(m * n, (x, y)) for m, x in one for n, y in other]
        self.assertEqual(
            put_in(brackets, [(1, "b"), (1, "c")], A, [(2, "c")]),
            plain_sum(expected_put_in(brackets, [(1, "b"), (1, "c")], A, [(2, "c")])),
        )


class GatheredTest(SumsTest):
    def test_the_empty_list(self):
        self.assertEqual(gathered([]), [])

    def test_letters(self):
        self.assertEqual(gathered([("c", 2), ("a", -1)]), [(-1, "a"), (2, "c")])

    def test_the_words_of_a_bracket(self):
        self.assertEqual(gathered([("ab", 1), ("ba", -1)]), [(1, "ab")])
        self.assertEqual(gathered([("aab", 1), ("aba", -2), ("baa", 1)]), [(1, "aab")])

    def test_the_words_of_sums(self):
        for total in ([(3, BALANCED_8)], [(2, AB), (1, "c"), (-7, (ABC, AB))], [(GREAT, nested_left("a", "bbbbbbb"))]):
            words = words_of(total)
            self.assertEqual(gathered(words), plain_sum(total))
            self.assert_plain_sum(gathered(words), total)

    def test_in_another_order(self):
        words = [("c", 4), ("ab", 1), ("ba", -1), ("bc", -3), ("cb", 3)]
        for turned in itertools.permutations(words):
            self.assertEqual(gathered(list(turned)), [(4, "c"), (1, "ab"), (-3, "bc")])
        total = [(2, (ABC, "b")), (1, BALANCED_8)]
        self.assertEqual(gathered(list(reversed(words_of(total)))), plain_sum(total))

    def test_a_word_in_two_parts(self):
        self.assertEqual(gathered([("ab", 3), ("ba", -1), ("ab", -2)]), [(1, "ab")])
        self.assertEqual(gathered([("a", 3), ("a", 4)]), [(7, "a")])
        words = words_of([(5, ABC)])
        halves = [(word, 2 * count) for word, count in words] + [(word, -count) for word, count in reversed(words)]
        self.assertEqual(gathered(halves), [(5, "abc")])

    def test_parts_that_cancel(self):
        self.assertEqual(gathered([("ba", 3), ("ba", -3)]), [])
        self.assertEqual(gathered([("ba", 3), ("c", 1), ("ba", -3)]), [(1, "c")])

    def test_the_count_0(self):
        self.assertEqual(gathered([("a", 0)]), [])
        self.assertEqual(gathered([("ba", 0), ("aa", 0), ("b", 2)]), [(2, "b")])
        self.assertEqual(gathered([("ab", 1), ("aa", 0), ("ba", -1)]), [(1, "ab")])

    def test_words_of_several_lengths(self):
        total = [(1, nested_left("b", "acbacab")), (2, (ABC, "a")), (-1, ABC), (4, ("c", "b")), (9, "b")]
        self.assertEqual(gathered(words_of(total)), plain_sum(total))

    def test_plain_words_that_are_not_among_the_words(self):
        total = [(1, ABC), (1, (("a", "c"), "b"))]
        self.assertEqual(gathered(words_of(total)), [(1, "abc"), (1, "acb")])

    def test_more_than_twelve_plain_words(self):
        plain = [word for length in (1, 2, 3) for word in all_words(length) if expected_plain(word)]
        told = [(place + 1, word) for place, word in enumerate(plain)]
        self.assertEqual(len(told), 14)
        self.assertEqual(gathered(words_of(sum_of_plain_brackets(told))), told)

    def test_no_sum_has_one_word_of_two_letters_or_more(self):
        for length in (2, 3, 4):
            for word in all_words(length):
                with self.assertRaises(NoSum):
                    gathered([(word, 1)])

    def test_no_sum_has_one_word_of_8_letters(self):
        for word in ("aaaaaaab", "abcabcac", "aaaaaaaa", "cbacbacb", "abababab"):
            with self.assertRaises(NoSum):
                gathered([(word, -1)])

    def test_wrong_signs_and_counts(self):
        for words in [
            [("ab", 1), ("ba", 1)], [("ab", 1), ("ba", -2)], [("ab", 2), ("ba", -1)],
            [("aab", 1), ("aba", -1), ("baa", 1)], [("abc", 1), ("acb", -1), ("bca", -1), ("cba", -1)],
            [("ab", GREAT), ("ba", 1 - GREAT)], [("aa", 1)], [("aa", 1), ("bb", -1)],
        ]:
            with self.subTest(words=words), self.assertRaises(NoSum):
                gathered(words)

    def test_one_part_that_is_no_sums_among_others_that_are(self):
        fine = words_of([(1, "a"), (2, AB), (3, ABC), (4, BALANCED_8)])
        self.assertEqual(gathered(fine), plain_sum([(1, "a"), (2, AB), (3, ABC), (4, BALANCED_8)]))
        for word in ("ba", "cba", "bb", "abcc", "aabbbacc", "cccccccc"):
            for words in (fine + [(word, 1)], [(word, 1)] + fine):
                with self.assertRaises(NoSum):
                    gathered(words)

    def test_words_that_turn_out_to_be_no_sums_only_at_the_end(self):
        words = words_of([(1, nested_left("a", "bcabcab"))])
        for place in (0, 1, len(words) // 2, len(words) - 1):
            changed = list(words)
            changed[place] = (words[place][0], words[place][1] + 1)
            with self.assertRaises(NoSum):
                gathered(changed)
            with self.assertRaises(NoSum):
                gathered(words[:place] + words[place + 1:])

    def test_products_are_no_sums(self):
        # The words of a and [b,c] one behind the other, without the other way round taken away.
        with self.assertRaises(NoSum):
            gathered([("abc", 1), ("acb", -1)])
        with self.assertRaises(NoSum):
            gathered([("abc", 1), ("acb", -1), ("bca", 1), ("cba", -1)])

    def test_two_hundred_tuples(self):
        words = words_of([(1, BALANCED_8)])
        many = [(word, count) for word, count in words for time in range(200 // len(words))]
        self.assertGreater(len(many), 100)
        self.assertEqual(gathered(many), plain_sum([(200 // len(words), BALANCED_8)]))

    def test_somewhat_beyond_the_bounds(self):
        total = [(2, nested_right("cabbacabb", "a")), (GREAT, BALANCED_8), (1, nested_left("a", "bcacbb"))]
        self.assertGreater(len(words_of(total)), 200)
        self.assertEqual(gathered(words_of(total)), plain_sum(total))


class OwnTest(unittest.TestCase):
    def total(self):
        return [(2, AB), (0, "c"), (-2, ABC), (1, "a"), (5, ("a", "a"))]

    def words(self):
        return [("ba", -2), ("c", 1), ("ab", 1), ("a", 0), ("ab", 1)]

    def calls(self):
        """Each function with lists of its own to be handed in."""
        return [
            (plain_sum, [self.total()]),
            (plain_sum, [[]]),
            (same, [self.total(), [(1, "b")]]),
            (bracket_of, [self.total(), [(1, "b"), (0, "c")]]),
            (bracket_of, [[], self.total()]),
            (put_in, [self.total(), [(1, "b"), (0, "c")], [(1, AB)], []]),
            (put_in, [[], [], [], []]),
            (gathered, [self.words()]),
            (gathered, [[]]),
        ]

    def test_what_is_handed_in_stays_as_it_was(self):
        for function, handed in self.calls():
            before = copy.deepcopy(handed)
            function(*handed)
            self.assertEqual(handed, before, function.__name__)

    def test_what_is_refused_stays_as_it_was(self):
        for function, handed, refusal in [
            (bracket_of, [[(1, of_weight(8))], [(1, "a"), (0, "b")]], TooGreat),
            (put_in, [[(1, "c"), (1, AB)], [(1, of_weight(8))], [(1, "a")], [(0, "b")]], TooGreat),
            (gathered, [[("ba", 1), ("c", 0), ("ab", 1)]], NoSum),
        ]:
            before = copy.deepcopy(handed)
            with self.assertRaises(refusal):
                function(*handed)
            self.assertEqual(handed, before, function.__name__)

    def test_one_list_handed_in_twice(self):
        total = self.total()
        self.assertIs(same(total, total), True)
        self.assertEqual(bracket_of(total, total), [])
        self.assertEqual(put_in([(1, AB), (1, "c")], total, total, total), plain_sum(self.total()))
        self.assertEqual(total, self.total())

    def test_changing_what_was_told_changes_nothing_told_later(self):
        for function, handed in self.calls():
            first = function(*handed)
            if function is same:
                continue
            kept = list(first)
            self.assertIsNot(function(*handed), first)
            first.append((99, "c"))
            first.reverse()
            self.assertEqual(function(*handed), kept, function.__name__)
            first.clear()
            self.assertEqual(function(*handed), kept, function.__name__)

    def test_what_is_told_is_none_of_the_lists_handed_in(self):
        for function, handed in self.calls():
            told = function(*handed)
            for given in handed:
                self.assertIsNot(told, given)

    def test_changing_what_was_handed_in_changes_nothing_told_before(self):
        for function, handed in self.calls():
            told = function(*handed)
            kept = copy.deepcopy(told)
            for given in handed:
                given.clear()
            self.assertEqual(told, kept, function.__name__)

    def test_nothing_hangs_on_what_was_handed_in_earlier(self):
        total = self.total()
        plain_sum(total)
        same(total, [])
        total[:] = [(1, "b")]
        self.assertEqual(plain_sum(total), [(1, "b")])
        self.assertIs(same(total, B), True)
        self.assertEqual(bracket_of(A, total), [(1, "ab")])
        words = self.words()
        gathered(words)
        words[:] = [("c", 3)]
        self.assertEqual(gathered(words), [(3, "c")])


class NamesTest(unittest.TestCase):
    def test_arguments_by_their_names(self):
        self.assertEqual(plain_sum(total=A), [(1, "a")])
        self.assertIs(same(one=A, other=B), False)
        self.assertEqual(bracket_of(one=A, other=B), [(1, "ab")])
        self.assertEqual(put_in(total=[(1, ABC)], a=B, b=C, c=A), [(1, "acb")])
        self.assertEqual(gathered(words=[("a", 2)]), [(2, "a")])


if __name__ == "__main__":
    unittest.main()
