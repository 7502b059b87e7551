"""Sums reckoned with: plain sums, what is the same, brackets of sums, putting in, gathering.

All of it goes by words, since two sums are the same just where their words are.
"""

from twistbrackets.brackets import GREATEST_WEIGHT, bracket_counts, length_first, sum_counts, twisted, weight
from twistbrackets.brackets import add_count, add_counts, without_noughts
from twistbrackets.errors import NoSum, TooGreat
from twistbrackets.words import is_plain, plain_bracket


def plain_sum(total):
    return plain_sum_of(sum_counts(total))


def same(one, other):
    return sum_counts(one) == sum_counts(other)


def bracket_of(one, other):
    # Putting in looks at the same weights, and makes nought of an empty sum all the same.
    return put_in([(1, ("a", "b"))], one, other, [])


def put_in(total, a, b, c):
    greatest = {"a": greatest_weight(a), "b": greatest_weight(b), "c": greatest_weight(c)}
    letter_counts = {"a": sum_counts(a), "b": sum_counts(b), "c": sum_counts(c)}
    counts = {}
    for times, bracket in total:
        reached = weight_put_in(bracket, greatest)
        if reached > GREATEST_WEIGHT:
            raise TooGreat(f"a weight of {reached} would come of it")
        # A bracket that an empty sum makes nought may be of any weight otherwise, and its other
        # parts may have far too many words: they are not reckoned at all.
        if reached > 0:
            add_counts(counts, times, counts_put_in(bracket, letter_counts))
    return plain_sum_of(without_noughts(counts))


def greatest_weight(total):
    return max([weight(bracket) for count, bracket in total], default=0)


def weight_put_in(bracket, greatest):
    if isinstance(bracket, str):
        return greatest[bracket]
    first = weight_put_in(bracket[0], greatest)
    second = weight_put_in(bracket[1], greatest)
    # Only an empty sum has the greatest weight 0, and it makes nought of the whole bracket.
    if first == 0 or second == 0:
        return 0
    return first + second


def counts_put_in(bracket, letter_counts):
    if isinstance(bracket, str):
        return letter_counts[bracket]
    return twisted(counts_put_in(bracket[0], letter_counts), counts_put_in(bracket[1], letter_counts))


def gathered(words):
    counts = {}
    for word, count in words:
        add_count(counts, word, count)
    return plain_sum_of(without_noughts(counts))


def plain_sum_of(counts):
    found = {}
    for part in parts_by_letters(counts):
        found.update(plain_counts_of(part))
    return [(found[word], word) for word in sorted(found, key=length_first)]


def parts_by_letters(counts):
    # All words of a bracket have the same letters, so the parts are gathered each by itself:
    # the least word is looked for again and again, and only among those of its part.
    parts = {}
    for word, count in counts.items():
        part = parts.setdefault("".join(sorted(word)), {})
        part[word] = count
    return list(parts.values())


def plain_counts_of(part):
    found = {}
    left = dict(part)
    while left:
        # In a sum of plain brackets the least of their plain words stands only in its own bracket,
        # and there once. So the least word left must be plain, and its count is that bracket's.
        least = min(left)
        if not is_plain(least):
            raise NoSum(f"no sum has these words: {least!r} is left over")
        count = left[least]
        found[least] = count
        add_counts(left, -count, bracket_counts(plain_bracket(least)))
        left = without_noughts(left)
    return found
