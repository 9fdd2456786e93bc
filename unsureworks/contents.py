"""Names, contents and remarks of sheets: whether a value is one, and how they are written, there and back."""

from unsureworks.bounds import MAX_NESTED
from unsureworks.errors import BadText
from unsureworks.forms import is_line, is_saying, is_word, names_in_line
from unsureworks.numbers import fraction_in, fraction_text
from unsureworks.spreadtexts import read_spread, spread_text

MOST_LETTERS = 12


def is_name(value):
    """Whether value, any value, is a name."""
    if not isinstance(value, str) or len(value) > MOST_LETTERS or value == "seen":
        return False
    return value.isascii() and value.isalpha() and value.islower()


def is_content(value):
    """Whether value, any value, is a content; behind "draw" anything may stand."""
    if not isinstance(value, tuple) or value == ():
        return False
    if value[0] == "draw":
        return len(value) == 2
    return value[0] != "shift" and is_line(value, is_name)


def is_remark(value):
    """Whether value, any value, is a remark."""
    return is_saying(value, is_name)


def is_draw(content):
    """Whether a content is that of a draw."""
    return content[0] == "draw"


def names_used(content):
    """The list of the names in a content, from left to right."""
    return [] if is_draw(content) else names_in_line(content)


def line_text(name, content):
    """The line of a name and its content."""
    word = content[0]
    if word == "draw":
        told = [spread_text(content[1])]
    elif word == "sum":
        told = []
        for factor, other in content[1]:
            told += [fraction_text(factor), other]
        told.append(fraction_text(content[2]))
    else:
        told = list(content[1:])
    return " ".join([name, word] + told)


def remark_text(remark):
    """The words of a remark."""
    if is_word(remark[0]):
        return " ".join(list(remark))
    return " ".join([remark[0]] + [remark_text(part) for part in remark[1:]])


def line_in(text):
    """The pair of the name and the content whose line a string is, or None; BadSpread is raised for a bad spread."""
    name, _, told = text.partition(" ")
    word, _, rest = told.partition(" ")
    if not is_name(name):
        return None
    content = _draw_in(rest) if word == "draw" else _content_in(word, rest.split(" "))
    return (name, content) if is_content(content) else None


def _draw_in(text):
    """The content of a draw with the spread whose text a string is, or None."""
    try:
        return "draw", read_spread(text)
    except BadText:
        return None


def _content_in(word, words):
    """What a content would be that has a word and these words behind it; it need not be one."""
    if word != "sum":
        return (word,) + tuple(words)
    terms = [(fraction_in(factor), name) for factor, name in zip(words[:-1:2], words[1::2])]
    return (word, tuple(terms), fraction_in(words[-1])) if len(words) == 2 * len(terms) + 1 else None


def remark_in(text):
    """The remark whose words a string is, or None."""
    words = text.split(" ")
    remark, behind = _remark_from(words, 0, MAX_NESTED)
    return remark if behind == len(words) and is_remark(remark) else None


def _remark_from(words, place, deep):
    """The pair of what is told by the words from a place on, at most so deep, and of the place behind it.

    It is None if nothing is told, but may still be no remark.
    """
    word = words[place] if place < len(words) else ""
    if is_word(word):
        return tuple(words[place:place + 3]), place + 3
    if deep == 0 or word not in ("and", "or", "not"):
        return None, place
    first, behind = _remark_from(words, place + 1, deep - 1)
    if word == "not" or first is None:
        return (word, first), behind
    second, behind = _remark_from(words, behind, deep - 1)
    return (word, first, second), behind
