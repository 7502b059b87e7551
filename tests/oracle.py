"""What the document says, reckoned in other ways than the program does, for the tests to compare."""

import collections
import itertools


def nested_left(first, letters):
    bracket = first
    for letter in letters:
        bracket = (bracket, letter)
    return bracket


def nested_right(letters, last):
    bracket = last
    for letter in reversed(letters):
        bracket = (letter, bracket)
    return bracket


def arrangements(bracket):
    """All signed words of a bracket, one for each choice of order at each tuple, not put together."""
    if isinstance(bracket, str):
        return [(1, bracket)]
    told = []
    for (sign, word), (other_sign, other) in itertools.product(*map(arrangements, bracket)):
        told.append((sign * other_sign, word + other))
        told.append((-sign * other_sign, other + word))
    return told


def expected_words(total):
    counts = collections.defaultdict(int)
    for times, bracket in total:
        for sign, word in arrangements(bracket):
            counts[word] += times * sign
    return [(word, counts[word]) for word in sorted(sorted(counts), key=len) if counts[word]]


def brackets_of_weight(size):
    if size == 1:
        return ["a", "b", "c"]
    return [
        (first, second)
        for split in range(1, size)
        for first in brackets_of_weight(split)
        for second in brackets_of_weight(size - split)
    ]


def all_words(length, letters="abc"):
    return ["".join(word) for word in itertools.product(letters, repeat=length)]


def turns(word):
    return [word[k:] + word[:k] for k in range(1, len(word))]


def expected_plain(word):
    """A word is ahead of each of its proper ends just where it is ahead of each of its turns."""
    return word != "" and all(word < turn for turn in turns(word))


def expected_cut(word):
    ends = [word[k:] for k in range(1, len(word)) if expected_plain(word[k:])]
    longest = max(ends, key=len)
    return (word[:-len(longest)], longest)


def expected_bracket(word):
    if len(word) == 1:
        return word
    ahead, end = expected_cut(word)
    return (expected_bracket(ahead), expected_bracket(end))


def expected_number(letters, length):
    """Each word is a turn of just one plain word, taken some times over."""
    shorter = [n for n in range(1, length) if length % n == 0]
    return (letters ** length - sum(n * expected_number(letters, n) for n in shorter)) // length


def sum_of_plain_brackets(plain):
    return [(count, expected_bracket(word)) for count, word in plain]


def faults_of_plain_sum(plain, words):
    """Why `plain` is not the one plain sum whose words are `words` (told as in [5]); empty if it is."""
    faults = []
    if type(plain) is not list or any(type(entry) is not tuple or len(entry) != 2 for entry in plain):
        return ["not a list of tuples of two"]
    if any(type(count) is not int or type(word) is not str for count, word in plain):
        return ["not a number and a text in a tuple"]
    told = [word for count, word in plain]
    if told != sorted(sorted(set(told)), key=len):
        faults.append("not each word once, in order")
    if any(count == 0 for count, word in plain):
        faults.append("a count is nought")
    if not all(expected_plain(word) for word in told):
        return faults + ["a word is not plain"]
    if expected_words(sum_of_plain_brackets(plain)) != words:
        faults.append("other words")
    return faults
