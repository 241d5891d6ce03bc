"""Codes: lists of unlike words; and the words of so many places, with their numbers."""

from needledeck.errors import NoCount
from needledeck.words import within


def plain(code):
    """Tell whether no word of a code lies within another one, or the numbers of two of which one does."""
    for i, one in enumerate(code):
        for j, other in enumerate(code):
            if i != j and within(one, other):
                return ("within", i, j)
    return ("plain",)


def choose(n, k):
    """Tell how many words of k places, of n holes, there are."""
    if k > n:
        return 0
    many = 1
    # The places that a word leaves out are chosen just as well, and by the fewer the steps are fewer.
    for step in range(min(k, n - k)):
        many = many * (n - step) // (step + 1)
    return many


def number_of(holes, word):
    """Tell the number of a word among those of as many places."""
    many = len(word)
    behind = 0
    for at, place in enumerate(word):
        # Behind it come those that are like it so far and have all their further places beyond this one.
        behind += choose(holes - 1 - place, many - at)
    return choose(holes, many) - 1 - behind


def word_at(holes, many, number):
    """Tell the word of so many places that has this number, or refuse the number with NoCount."""
    if number < 0 or number >= choose(holes, many):
        raise NoCount("a number is from 0 to one less than there are words of so many places")
    word = ()
    left = number
    place = 0
    while len(word) < many:
        # Of the words that begin like this one those that have the place come ahead of those that haven't.
        having = choose(holes - 1 - place, many - len(word) - 1)
        if left < having:
            word = word + (place,)
        else:
            left -= having
        place += 1
    return word


def words_of(holes, many):
    """Tell all words of so many places, in their order."""
    return [word_at(holes, many, number) for number in range(choose(holes, many))]
