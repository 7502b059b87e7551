"""Brackets of letters, sums of them, and the words that they stand for.

Within the program, words and their counts are reckoned with as a dict from word to count.
"""

LETTERS = ("a", "b", "c")
GREATEST_WEIGHT = 8


def weight(bracket):
    if isinstance(bracket, str):
        return 1
    return weight(bracket[0]) + weight(bracket[1])


def words_of(total):
    counts = sum_counts(total)
    return [(word, counts[word]) for word in sorted(counts, key=length_first)]


def length_first(word):
    return (len(word), word)


def sum_counts(total):
    counts = {}
    for times, bracket in total:
        add_counts(counts, times, bracket_counts(bracket))
    return without_noughts(counts)


def bracket_counts(bracket):
    if isinstance(bracket, str):
        return {bracket: 1}
    return twisted(bracket_counts(bracket[0]), bracket_counts(bracket[1]))


def twisted(first, second):
    counts = {}
    for ahead, ahead_count in first.items():
        for behind, behind_count in second.items():
            product = ahead_count * behind_count
            add_count(counts, ahead + behind, product)
            add_count(counts, behind + ahead, -product)
    # Dropped at each step, so that a part that is nought costs nothing further out.
    return without_noughts(counts)


def add_counts(counts, times, added):
    for word, count in added.items():
        add_count(counts, word, times * count)


def add_count(counts, word, count):
    counts[word] = counts.get(word, 0) + count


def without_noughts(counts):
    kept = {}
    for word, count in counts.items():
        if count != 0:
            kept[word] = count
    return kept
