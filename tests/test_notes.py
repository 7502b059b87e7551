import copy
import itertools
import unittest

from oracle import brackets_of_weight, nested_left, nested_right
from twistbrackets.brackets import weight
from twistbrackets.errors import NotRead
from twistbrackets.notes import read, written

AB = ("a", "b")
BALANCED_8 = ((("a", "b"), ("b", "c")), (("c", "a"), ("a", "b")))
BALANCED_8_TEXT = "[[[a,b],[b,c]],[[c,a],[a,b]]]"
LEFT_8_TEXT = "[[[[[[[a,b],c],a],b],c],a],b]"
RIGHT_8_TEXT = "[a,[b,[c,[a,[b,[c,[a,b]]]]]]]"
DOC_TEXT = "+2[a,b]-1[a,[b,c]]"
DOC_SUM = [(2, ("a", "b")), (-1, ("a", ("b", "c")))]


class WrittenTest(unittest.TestCase):
    def test_the_empty_sum(self):
        self.assertEqual(written([]), "0")

    def test_letters(self):
        for letter in "abc":
            self.assertEqual(written([(1, letter)]), "+1" + letter)

    def test_brackets(self):
        self.assertEqual(written([(1, AB)]), "+1[a,b]")
        self.assertEqual(written([(1, (AB, "c"))]), "+1[[a,b],c]")
        self.assertEqual(written([(1, ("c", AB))]), "+1[c,[a,b]]")
        self.assertEqual(written([(1, BALANCED_8)]), "+1" + BALANCED_8_TEXT)
        self.assertEqual(written([(1, nested_left("a", "bcabcab"))]), "+1" + LEFT_8_TEXT)
        self.assertEqual(written([(1, nested_right("abcabca", "b"))]), "+1" + RIGHT_8_TEXT)

    def test_the_documents_text(self):
        self.assertEqual(written(DOC_SUM), DOC_TEXT)

    def test_counts_of_either_sign(self):
        self.assertEqual(written([(7, "a"), (-7, "a")]), "+7a-7a")
        self.assertEqual(written([(10, "a"), (-100, "b")]), "+10a-100b")

    def test_the_count_0(self):
        self.assertEqual(written([(0, "a")]), "+0a")
        self.assertEqual(written([(0, AB), (-1, "c"), (0, "c")]), "+0[a,b]-1c+0c")

    def test_counts_of_30_figures(self):
        self.assertEqual(written([(10 ** 30 - 1, "a")]), "+" + "9" * 30 + "a")
        self.assertEqual(written([(-(10 ** 29), "b")]), "-1" + "0" * 29 + "b")

    def test_tuples_are_neither_put_together_nor_put_in_order(self):
        self.assertEqual(written([(1, "b"), (1, "a"), (2, "b"), (-1, "a"), (3, ("a", "a"))]), "+1b+1a+2b-1a+3[a,a]")

    def test_twelve_tuples(self):
        self.assertEqual(written([(-1, "c")] * 12), "-1c" * 12)

    def test_somewhat_beyond_the_bounds(self):
        self.assertEqual(written([(1, "a")] * 13), "+1a" * 13)
        self.assertEqual(written([(10 ** 30, "a")]), "+1" + "0" * 30 + "a")
        self.assertEqual(written([(1, (BALANCED_8, "a"))]), f"+1[{BALANCED_8_TEXT},a]")

    def test_kind(self):
        self.assertIs(type(written([])), str)
        self.assertIs(type(written(DOC_SUM)), str)


class ReadTest(unittest.TestCase):
    def test_the_text_0(self):
        self.assertEqual(read("0"), [])

    def test_letters(self):
        for letter in "abc":
            self.assertEqual(read("+1" + letter), [(1, letter)])
            self.assertEqual(read("-12" + letter), [(-12, letter)])

    def test_brackets(self):
        self.assertEqual(read("+1[a,b]"), [(1, AB)])
        self.assertEqual(read("+1[[a,b],c]"), [(1, (AB, "c"))])
        self.assertEqual(read("+1[c,[a,b]]"), [(1, ("c", AB))])
        self.assertEqual(read("+3[a,a]"), [(3, ("a", "a"))])

    def test_weight_8(self):
        self.assertEqual(read("-5" + BALANCED_8_TEXT), [(-5, BALANCED_8)])
        self.assertEqual(read("-5" + LEFT_8_TEXT), [(-5, nested_left("a", "bcabcab"))])
        self.assertEqual(read("-5" + RIGHT_8_TEXT), [(-5, nested_right("abcabca", "b"))])

    def test_the_documents_text(self):
        self.assertEqual(read(DOC_TEXT), DOC_SUM)

    def test_the_count_0(self):
        self.assertEqual(read("+0a"), [(0, "a")])
        self.assertEqual(read("+0[a,b]-1c+0c"), [(0, AB), (-1, "c"), (0, "c")])

    def test_counts_of_many_figures(self):
        self.assertEqual(read("+" + "9" * 30 + "a"), [(10 ** 30 - 1, "a")])
        self.assertEqual(read("-1" + "0" * 29 + "b"), [(-(10 ** 29), "b")])
        self.assertEqual(read("+1234567890c"), [(1234567890, "c")])

    def test_tuples_are_neither_put_together_nor_put_in_order(self):
        self.assertEqual(read("+1b+1a+2b-1a+3[a,a]"), [(1, "b"), (1, "a"), (2, "b"), (-1, "a"), (3, ("a", "a"))])

    def test_twelve_tuples(self):
        self.assertEqual(read("-1c" * 12), [(-1, "c")] * 12)

    def test_the_longest_text_that_is_read(self):
        text = ("-" + "9" * 30 + BALANCED_8_TEXT) * 12
        self.assertEqual(read(text), [(1 - 10 ** 30, BALANCED_8)] * 12)

    def test_kinds(self):
        self.assertIs(type(read("0")), list)
        told = read(DOC_TEXT)
        self.assertIs(type(told), list)
        for entry in told:
            self.assertIs(type(entry), tuple)
            self.assertEqual([type(part) for part in entry], [int, tuple])
        self.assertIs(type(told[1][1][1]), tuple)
        self.assertEqual([type(part) for part in read("+0a")[0]], [int, str])


class WrittenAndReadTest(unittest.TestCase):
    def assert_read_back(self, total):
        text = written(total)
        self.assertEqual(read(text), total)
        self.assertEqual(written(read(text)), text)

    def test_the_empty_sum(self):
        self.assert_read_back([])

    def test_every_bracket_up_to_weight_5(self):
        for size in range(1, 6):
            for bracket in brackets_of_weight(size):
                self.assert_read_back([(-4, bracket)])

    def test_every_form_of_a_bracket_of_weight_8(self):
        def forms(size):
            if size == 1:
                return ["b"]
            return [
                (one, other)
                for split in range(1, size)
                for one in forms(split)
                for other in forms(size - split)
            ]

        self.assertEqual(len(forms(8)), 429)
        for bracket in forms(8):
            self.assertEqual(weight(bracket), 8)
            self.assert_read_back([(1, bracket), (0, bracket)])

    def test_counts(self):
        for count in (0, 1, 9, 10, 11, 99, 100, 10 ** 29, 10 ** 30 - 1):
            self.assert_read_back([(count, AB), (-count, "c")])

    def test_twelve_tuples(self):
        self.assert_read_back([((-1) ** k * 10 ** k, "abc"[k % 3]) for k in range(12)])
        self.assert_read_back([(10 ** 30 - 1 - k, BALANCED_8) for k in range(12)])


class NotReadTest(unittest.TestCase):
    def assert_not_read(self, *texts):
        for text in texts:
            with self.subTest(text=text), self.assertRaises(NotRead):
                read(text)

    def test_the_empty_text(self):
        self.assert_not_read("")

    def test_a_nought_ahead_of_a_count(self):
        self.assert_not_read("+01a", "-01a", "+00a", "+007[a,b]", "+1a+01a", "+0" + "1" * 30 + "a", "+000a")

    def test_nought_with_a_minus(self):
        self.assert_not_read("-0a", "-0[a,b]", "+1a-0a", "-00a")

    def test_nought_that_is_not_alone(self):
        self.assert_not_read("00", "+0", "-0", "0a", "0+1a", "+1a0", "+1a+0", "0 ", " 0", "0\n", "000", "0.0")

    def test_a_sign_that_lacks(self):
        self.assert_not_read("1a", "a", "[a,b]", "2[a,b]", "+1a1b", "+1ab", "+1[a,b]2c", "+2[a,b]1[a,[b,c]]")

    def test_signs_too_many(self):
        self.assert_not_read("++1a", "+-1a", "--1a", "-+1a", "+1a+", "+1a-", "+1a++1a", "+", "-", "+1+a")

    def test_a_count_that_lacks(self):
        self.assert_not_read("+a", "-a", "+[a,b]", "+1a+b", "+1a-[a,b]")

    def test_a_bracket_that_lacks(self):
        self.assert_not_read("+1", "-12", "+1a+1", "1", "+1-1", "+[]", "+1[]")

    def test_other_forms_of_numbers(self):
        self.assert_not_read("+1_0a", "+1.0a", "+1e1a", "+0x1a", "+1,000a", "+1*a", "+(1)a")

    def test_blanks_and_tabs(self):
        for place in range(len(DOC_TEXT) + 1):
            for blank in " \t":
                self.assert_not_read(DOC_TEXT[:place] + blank + DOC_TEXT[place:])
        self.assert_not_read(" ", "\t", "  ")

    def test_line_ends(self):
        for place in range(len(DOC_TEXT) + 1):
            for end in ("\n", "\r", "\r\n"):
                self.assert_not_read(DOC_TEXT[:place] + end + DOC_TEXT[place:])
        self.assert_not_read("\n", "0\n", "\n0")

    def test_letters_beside_the_three(self):
        for other in "dxzABC0":
            self.assert_not_read("+1" + other, f"+1[a,{other}]", f"+1[{other},a]", f"+1[[a,{other}],b]")

    def test_every_other_sign_in_every_place(self):
        signs = [chr(code) for code in range(32, 127) if chr(code) not in "%abc0123456789+-"]
        for place, sign in itertools.product(range(len(DOC_TEXT)), signs):
            if DOC_TEXT[place] != sign:
                self.assert_not_read(DOC_TEXT[:place] + sign + DOC_TEXT[place + 1:])

    def test_a_sign_taken_away(self):
        for place in range(len(DOC_TEXT)):
            self.assert_not_read(DOC_TEXT[:place] + DOC_TEXT[place + 1:])

    def test_texts_that_end_too_early(self):
        for place in range(1, len(DOC_TEXT)):
            if place != len("+2[a,b]"):
                self.assert_not_read(DOC_TEXT[:place])

    def test_brackets_that_are_not_closed(self):
        self.assert_not_read("+1[", "+1[a", "+1[a,", "+1[a,b", "+1[a,[b,c]", "+1[[a,b],c", "+1[[a,b]", "+1[a,b+1c")

    def test_brackets_with_too_much_behind_them(self):
        self.assert_not_read("+1[a,b]]", "+1a]", "+1[a,b],", "+1[a,b]c", "+1[a,b][a,b]", "+1aa", "+1[a,b],c]", "+1a,")

    def test_brackets_of_another_form(self):
        self.assert_not_read(
            "+1[a]", "+1[]", "+1[,]", "+1[a,]", "+1[,a]", "+1[a,b,c]", "+1[ab]", "+1[a;b]", "+1(a,b)", "+1{a,b}",
            "+1[[a,b]]", "+1[a,,b]", "+1[a b]", "+1]a,b[", "+1[+1a,b]", "+1[1a,b]", "+1[a,0]",
        )

    def test_a_weight_above_8(self):
        for bracket in (f"[{BALANCED_8_TEXT},a]", f"[a,{LEFT_8_TEXT}]", f"[{LEFT_8_TEXT},a]", f"[c,{RIGHT_8_TEXT}]"):
            self.assert_not_read("+1" + bracket, "+0" + bracket, "-1a+1" + bracket, "+1" + bracket + "-1a")
        self.assert_not_read(f"+1[{BALANCED_8_TEXT},{BALANCED_8_TEXT}]")
        self.assert_not_read("+1[[[[a,b],[a,b]],[[a,b],[a,b]]],[a,b]]")

    def test_far_too_deep(self):
        self.assert_not_read("+1" + "[" * 998, "+1" + "[a," * 332, "+1" + "[a," * 247 + "a" + "]" * 247)
        self.assert_not_read("+1" + "[" * 249 + "a" + ",a]" * 249, "[" * 1000, "[a," * 300)
        self.assert_not_read("+1" + "[" * 1500, "+1" + "[a," * 1500)

    def test_a_count_of_31_figures(self):
        self.assert_not_read("+1" + "0" * 30 + "a", "-" + "9" * 31 + "a", "+1a+" + "1" * 31 + "[a,b]")

    def test_a_count_of_very_many_figures(self):
        self.assert_not_read("+" + "9" * 998 + "a", "-" + "1" * 999, "+" + "0" * 998 + "a")

    def test_thirteen_tuples(self):
        self.assert_not_read("+1a" * 13, "+0a" * 13, "-1[a,b]" * 13, "+1a" * 12 + "-1a", "+1a" * 333)

    def test_only_the_refusal_is_raised_for_short_texts(self):
        for length in range(4):
            for signs in itertools.product("+-012ab[],", repeat=length):
                text = "".join(signs)
                try:
                    total = read(text)
                except NotRead:
                    continue
                self.assertEqual(written(total), text)


class OwnTest(unittest.TestCase):
    def test_what_is_handed_in_stays_as_it_was(self):
        total = [(2, AB), (0, "c"), (-2, ("a", ("b", "c"))), (2, AB)]
        before = copy.deepcopy(total)
        written(total)
        self.assertEqual(total, before)

    def test_nothing_hangs_on_what_was_handed_in_earlier(self):
        total = [(2, AB)]
        written(total)
        total.append((-1, "c"))
        self.assertEqual(written(total), "+2[a,b]-1c")
        total.clear()
        self.assertEqual(written(total), "0")

    def test_changing_what_was_told_changes_nothing_told_later(self):
        for text in ("0", DOC_TEXT):
            first = read(text)
            kept = list(first)
            self.assertIsNot(read(text), first)
            first.append((1, "a"))
            first.reverse()
            self.assertEqual(read(text), kept)
            first.clear()
            self.assertEqual(read(text), kept)


class NamesTest(unittest.TestCase):
    def test_arguments_by_their_names(self):
        self.assertEqual(written(total=DOC_SUM), DOC_TEXT)
        self.assertEqual(read(text=DOC_TEXT), DOC_SUM)


if __name__ == "__main__":
    unittest.main()
