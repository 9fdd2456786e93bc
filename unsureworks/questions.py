"""Questions of pages, and the answers that are kept."""

from unsureworks.bounds import MAX_BOXES, MAX_CHOICES, MAX_COMPARED, MAX_DRAWS, MAX_LINES
from unsureworks.chances import chance_given, mean_of
from unsureworks.contents import is_draw, is_remark, line_text, names_used, remark_text
from unsureworks.errors import BadSaying, TooMany
from unsureworks.forms import compared_in, is_choice, is_word, names_in
from unsureworks.pages import hung_names, refuse_unset
from unsureworks.spreads import lump
from unsureworks.values import spread_of


class Answers:
    """The answers to questions that were kept, told by texts: of a question and of all that its answer hangs on.

    Answers that other sheets have reckoned serve as well; what counts as kept is what was asked here.
    """

    def __init__(self, reckoned, kept):
        self.reckoned = reckoned
        self.kept = kept

    def twin(self):
        """Other answers that keep the same so far."""
        return Answers(self.reckoned, dict(self.kept))

    def told(self, page, word, asked):
        """The answer to "chance", "mean" or "spread" of what is asked, any value, on a page; it is kept."""
        names = _names_asked(page, word, asked)
        hung = hung_names(page, names + _names_seen(page))
        draws = [name for name in hung if is_draw(page.contents[name])]
        others = [name for name in hung if not is_draw(page.contents[name])]
        _refuse_many(page, draws, others)
        text = _text_of(page, word, asked, hung)
        if text not in self.reckoned:
            self.reckoned[text] = _reckoned(page, word, asked, draws, others)
        self.kept[text] = True
        return self.reckoned[text]


def _names_asked(page, word, asked):
    """The list of the names in what is asked, any value, from left to right; all of them are set."""
    if word != "chance":
        refuse_unset(page, [asked])
        return [asked]
    if not is_remark(asked):
        raise BadSaying("form")
    names = names_in(asked)
    refuse_unset(page, names)
    return names


def _names_seen(page):
    """The list of the names in all remarks that were seen."""
    return [name for remark in page.remarks for name in names_in(remark)]


def _refuse_many(page, draws, others):
    """Raise TooMany if too many draws, or other names, make the world of a question, or too much was seen.

    How much matters there is asked where the answer is reckoned.
    """
    boxes = 1
    for name in draws:
        lumps, curve = page.contents[name][1]
        boxes *= len(lumps) + len(curve)
    choices = len([name for name in others if is_choice(page.contents[name])])
    seen = sum([len(compared_in(remark)) for remark in page.remarks])
    limits = ((len(draws), MAX_DRAWS), (boxes, MAX_BOXES), (len(others), MAX_LINES), (choices, MAX_CHOICES),
              (seen, MAX_COMPARED))
    for many, limit in limits:
        if many > limit:
            raise TooMany(limit)


def _text_of(page, word, asked, hung):
    """The text of a question and of all that its answer hangs on: lines of names, and remarks seen."""
    rows = [word + " " + (remark_text(asked) if word == "chance" else asked)]
    rows += [line_text(name, page.contents[name]) for name in hung]
    return "\n".join(rows + ["seen " + remark_text(remark) for remark in page.remarks])


def _reckoned(page, word, asked, draws, others):
    """The answer to a question, reckoned in its world."""
    world = tuple([page.contents[name][1] for name in draws]) if draws else (lump((0, 1)),)
    numbers = {name: place for place, name in enumerate(draws)}
    program = []
    for name in _each_behind_used(page, others):
        program.append(_line_of(page.contents[name], numbers))
        numbers[name] = len(world) + len(program) - 1
    seen = None
    for remark in page.remarks:
        told = _saying_of(remark, numbers)
        seen = told if seen is None else ("and", seen, told)
    if word == "chance":
        return chance_given(world, tuple(program), _saying_of(asked, numbers), seen)
    if word == "mean":
        return mean_of(world, tuple(program), numbers[asked], seen)
    return spread_of(world, tuple(program), numbers[asked], seen)


def _each_behind_used(page, names):
    """The list of some names, each behind those among them that it uses."""
    found, left = [], names
    while left:
        ready = [name for name in left if not any([other in left for other in names_used(page.contents[name])])]
        found += ready
        left = [name for name in left if name not in ready]
    return found


def _line_of(content, numbers):
    """The line that a content is, with numbers for its names."""
    if content[0] == "sum":
        terms = sorted([(numbers[name], factor) for factor, name in content[1]])
        return "sum", tuple([(factor, name) for name, factor in terms]), content[2]
    if content[0] == "choice":
        _, a, word, b, x, y = content
        return "choice", numbers[a], word, numbers[b], numbers[x], numbers[y]
    return content[0], numbers[content[1]], numbers[content[2]]


def _saying_of(remark, numbers):
    """The saying that a remark is, with numbers for its names."""
    if is_word(remark[0]):
        return remark[0], numbers[remark[1]], numbers[remark[2]]
    return (remark[0],) + tuple([_saying_of(part, numbers) for part in remark[1:]])
