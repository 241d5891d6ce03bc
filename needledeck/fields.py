"""Fields of an edge: a layout is a list of tuples (name, count, code), one field behind the other."""

from needledeck.errors import NoValue
from needledeck.words import is_whole, together, within


def edge(layout):
    """Tell how many holes the edge of a layout has."""
    return sum([count for name, count, code in layout])


def begins(layout):
    """Tell the hole at which each field of a layout begins."""
    told = []
    begin = 0
    for name, count, code in layout:
        told.append(begin)
        begin += count
    return told


def value_word(layout, name, number):
    """Tell the word of the edge for one value of one field, or refuse it with NoValue."""
    for begin, (field, count, code) in zip(begins(layout), layout):
        if field == name:
            if not is_whole(number) or number < 0 or number >= len(code):
                raise NoValue("the field's code has no word with this number")
            return tuple([begin + place for place in code[number]])
    raise NoValue("the layout has no field with this name")


def written_as(layout, values):
    """Tell the word of the edge for values, tuples (name, number), or refuse them with NoValue."""
    word = ()
    for name, number in values:
        word = together(word, value_word(layout, name, number))
    return word


def find(layout, cards, question):
    """Tell the numbers of the cards that have all that is asked, and of those that drop though they have not."""
    words = [written_as(layout, values) for values in cards]
    needles = written_as(layout, question)
    found = []
    wrong = []
    for number, word in enumerate(words):
        if all([value in cards[number] for value in question]):
            found.append(number)
        elif within(needles, word):
            wrong.append(number)
    return (found, wrong)
