"""Plain words, their cuts and brackets, and how many of them there are."""

from twistbrackets.brackets import LETTERS
from twistbrackets.errors import NoNumber, NoWord

LONGEST_LISTED = 8
LONGEST_COUNTED = 60


def is_plain(word):
    if word == "":
        return False
    return all([word < word[start:] for start in range(1, len(word))])


def cut(word):
    refuse_unless_plain(word)
    if len(word) == 1:
        raise NoWord(f"one letter has no cut: {word!r}")
    # The first end that is plain is the longest; the last letter is always plain.
    start = 1
    while not is_plain(word[start:]):
        start = start + 1
    return (word[:start], word[start:])


def plain_bracket(word):
    refuse_unless_plain(word)
    if len(word) == 1:
        return word
    parts = cut(word)
    return (plain_bracket(parts[0]), plain_bracket(parts[1]))


def refuse_unless_plain(word):
    if not is_plain(word):
        raise NoWord(f"not a plain word: {word!r}")


def plain_words(letters, length):
    refuse_unless_within(letters, length, LONGEST_LISTED)
    return [word for word in all_words(letters, length) if is_plain(word)]


def all_words(letters, length):
    if length == 0:
        return [""]
    shorter = all_words(letters, length - 1)
    words = []
    for letter in LETTERS[:letters]:
        words.extend([letter + word for word in shorter])
    return words


def how_many(letters, length):
    refuse_unless_within(letters, length, LONGEST_COUNTED)
    total = 0
    for divisor in range(1, length + 1):
        if length % divisor == 0:
            total = total + prime_sign(divisor) * power(letters, length // divisor)
    return total // length


def refuse_unless_within(letters, length, longest):
    if letters < 1 or letters > len(LETTERS):
        raise NoNumber("the number of letters is not 1 to 3")
    if length < 1 or length > longest:
        raise NoNumber(f"the length is not 1 to {longest}")


def prime_sign(number):
    sign = 1
    rest = number
    # Only primes are met: what a greater number is made of was taken out of the rest before.
    for prime in range(2, number + 1):
        if rest % prime == 0:
            rest = rest // prime
            sign = -sign
            if rest % prime == 0:
                return 0
    return sign


def power(base, exponent):
    product = 1
    for step in range(exponent):
        product = product * base
    return product
