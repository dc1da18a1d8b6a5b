"""The words of texts: numbers, bounds, lines of words; reading raises BadText with what is wrong."""

from rowsintime.errors import BadText, ClockError
from rowsintime.ratios import lowest

FIGURES = "0123456789"

# What is not there.
DOT = "."


def number_word(number):
    """The decimal figures of an integer."""
    if number < 0:
        return "-" + number_word(-number)
    # Python writes no number that is very long at once.
    piece = 10 ** 50
    behind = ""
    while number >= piece:
        number, figures = divmod(number, piece)
        behind = str(figures).zfill(50) + behind
    return str(number) + behind


def number_in(word):
    """The integer that a word tells, also with needless figures."""
    figures = word[1:] if word.startswith("-") else word
    if figures == "" or not all([letter in FIGURES for letter in figures]):
        raise BadText(word)
    number = 0
    for letter in figures:
        number = 10 * number + FIGURES.index(letter)
    return -number if word.startswith("-") else number


def fraction_word(fraction):
    top, bottom = lowest(fraction[0], fraction[1])
    if bottom == 1:
        return number_word(top)
    return number_word(top) + "/" + number_word(bottom)


def fraction_in(word):
    top, slash, bottom = word.partition("/")
    if slash == "":
        return (number_in(top), 1)
    return (number_in(top), number_in(bottom))


def text_of(lines):
    """The text of some lines, each a list of words."""
    return "".join([" ".join(words) + "\n" for words in lines])


def lines_of(text):
    """The lines of a text, each a list of words."""
    if text == "":
        return []
    if not text.endswith("\n"):
        raise BadText(text)
    return [line.split(" ") for line in text[:-1].split("\n")]


def words_behind(line, word):
    """The words of a line behind its first one, which has to be this one."""
    if line[0] != word:
        raise BadText(line)
    return line[1:]


def so_many_behind(line, word, many):
    """As words_behind, which have to be so many."""
    words = words_behind(line, word)
    if len(words) != many:
        raise BadText(line)
    return words


def first_line(lines):
    if not lines:
        raise BadText("")
    return lines[0]


def read_as(thing, read, write):
    """What any object tells, if it is just the text that is written of this."""
    if not isinstance(thing, str):
        raise BadText(thing)
    written = ""
    try:
        found = read(lines_of(thing))
        written = write(found)
    except ClockError:
        raise BadText(thing) from None
    # Whatever a text tells otherwise than it is written is refused here.
    if written != thing:
        raise BadText(thing)
    return found
