"""Sheets kept another way: plain dicts and lists, everything reckoned anew, answers kept in a list."""

from fractions import Fraction

from unsureworks import errors
from unsureworks.chances import chance_given, mean_of
from unsureworks.errors import UnsureError
from unsureworks.spreads import lump, spread_error
from unsureworks.values import spread_of
from unsureworks.worlds import world_error

LETTERS = "abcdefghijklmnopqrstuvwxyz"


def is_fraction(value):
    """Whether something is a fraction."""
    if type(value) is not tuple or len(value) != 2 or not all(type(part) is int for part in value) or value[1] < 1:
        return False
    found = Fraction(*value)
    return (found.numerator, found.denominator) == value


def is_name(value):
    """Whether something is a name."""
    return type(value) is str and 1 <= len(value) <= 12 and all(letter in LETTERS for letter in value) and value != "seen"


def used_by(content):
    """The names in a content, from left to right, or None if it is no content."""
    if type(content) is not tuple or not content or type(content[0]) is not str:
        return None
    word, rest = content[0], content[1:]
    if word == "draw":
        return [] if len(rest) == 1 else None
    if word == "sum":
        if len(rest) != 2 or type(rest[0]) is not tuple or not is_fraction(rest[1]):
            return None
        if not all(type(term) is tuple and len(term) == 2 and is_fraction(term[0]) and is_name(term[1]) for term in rest[0]):
            return None
        names = [name for _, name in rest[0]]
        return names if names == sorted(set(names)) else None
    if word in ("greatest", "least"):
        return list(rest) if len(rest) == 2 and all(is_name(part) for part in rest) else None
    if word == "choice" and len(rest) == 5 and type(rest[1]) is str and rest[1] in ("<", "<=", "="):
        names = [rest[0]] + list(rest[2:])
        return names if all(is_name(part) for part in names) else None
    return None


def names_in(remark, deep=1):
    """The names in a remark, from left to right, each comparison's two beside one another; None if it is no remark."""
    found = parts_of(remark, 1)
    return None if found is None or len(found) > 8 else found


def parts_of(remark, deep):
    """The same, of any number of comparisons."""
    if type(remark) is not tuple or not remark or type(remark[0]) is not str or deep > 40:
        return None
    word, rest = remark[0], remark[1:]
    if word in ("<", "<=", "="):
        return list(rest) if len(rest) == 2 and all(is_name(part) for part in rest) else None
    if (word == "not" and len(rest) == 1) or (word in ("and", "or") and len(rest) == 2):
        parts = [parts_of(part, deep + 1) for part in rest]
        return None if None in parts else sum(parts, [])
    return None


class Model:
    """A sheet; with remark and least a kept one."""

    def __init__(self, contents=(), seen=(), remark=None, least=None):
        self.past, self.undone = [], []
        self.now = dict(contents), tuple(seen)
        self.kept = []
        self.remark, self.least = remark, least

    def hung(self, names):
        """All names on which some names hang."""
        found = set()
        left = list(names)
        while left:
            name = left.pop()
            if name not in found:
                found.add(name)
                left += used_by(self.now[0][name])
        return sorted(found)

    def put(self, name, content):
        if not is_name(name):
            raise errors.BadName(name)
        used = used_by(content)
        if used is None:
            raise errors.BadProgram("form")
        if content[0] == "draw":
            if spread_error(content[1]) is not None:
                raise errors.BadSpread(spread_error(content[1]))
            if world_error((content[1],)) is not None:
                raise errors.BadWorld(world_error((content[1],)))
        for other in used:
            if other not in self.now[0]:
                raise errors.BadName(other)
        if name in self.now[0] and any(name in self.hung([other]) for other in used):
            raise errors.Rings(name)
        return {**self.now[0], name: content}, self.now[1]

    def drop(self, name):
        self.set_name(name)
        for other in sorted(self.now[0]):
            if other != name and name in used_by(self.now[0][other]):
                raise errors.InUse(other)
        for place, remark in enumerate(self.now[1]):
            if name in names_in(remark):
                raise errors.InUse(place)
        return {other: content for other, content in self.now[0].items() if other != name}, self.now[1]

    def set_name(self, name):
        if type(name) is not str or name not in self.now[0]:
            raise errors.BadName(name)

    def see(self, remark):
        if self.ask("chance", remark) == (0, 1):
            raise errors.NoChance()
        return self.now[0], self.now[1] + (remark,)

    def forget(self, place):
        if type(place) is not int or not 0 <= place < len(self.now[1]):
            raise errors.Unfit()
        return self.now[0], self.now[1][:place] + self.now[1][place + 1:]

    def batch(self, edits):
        sizes = {"put": 2, "drop": 1, "see": 1, "forget": 1}
        if type(edits) is not tuple or len(edits) > 12:
            raise errors.BadBatch()
        for edit in edits:
            if type(edit) is not tuple or len(edit) != 2 or type(edit[0]) is not str or type(edit[1]) is not tuple:
                raise errors.BadBatch()
            if edit[0] not in sizes or sizes[edit[0]] != len(edit[1]):
                raise errors.BadBatch()
        before = self.now
        try:
            for place, (word, arguments) in enumerate(edits):
                try:
                    self.now = getattr(self, word)(*arguments)
                except UnsureError:
                    raise errors.Rejected(place)
            return self.now
        finally:
            self.now = before

    def edit(self, word, *arguments):
        """Make an edit; the new version."""
        after, before = getattr(self, word)(*arguments), self.now
        if self.remark is not None:
            self.now = after
            try:
                share = self.ask("chance", self.remark)
            except UnsureError:
                raise errors.Changed(None)
            finally:
                self.now = before
            if Fraction(*share) < Fraction(*self.least):
                raise errors.Changed(share)
        if len(self.past) >= 40:
            raise errors.TooManyEdits()
        self.past.append(before)
        self.now = after
        self.undone = []
        return len(self.past)

    def ask(self, word, asked):
        """The answer to a question, kept."""
        contents, seen = self.now
        if word == "chance":
            names = names_in(asked)
            if names is None:
                raise errors.BadSaying("form")
            for name in names:
                self.set_name(name)
        else:
            self.set_name(asked)
            names = [asked]
        compared_seen = sum([len(names_in(remark)) // 2 for remark in seen])
        hung = self.hung(names + [name for remark in seen for name in names_in(remark)])
        draws = [name for name in hung if contents[name][0] == "draw"]
        lines = [name for name in hung if contents[name][0] != "draw"]
        choices = [name for name in lines if contents[name][0] != "sum"]
        boxes = 1
        for name in draws:
            boxes *= len(contents[name][1][0]) + len(contents[name][1][1])
        compared = compared_seen + (len(names) // 2 if word == "chance" else 0)
        for many, limit in ((len(draws), 3), (boxes, 12), (len(lines), 12), (len(choices), 4), (compared_seen, 4),
                            (len(choices) + compared, 4 if len(draws) == 3 else 6)):
            if many > limit:
                raise errors.TooMany(limit)
        key = word, asked, {name: contents[name] for name in hung}, seen
        for other, answer in self.kept:
            if other == key:
                return answer
        answer = self.reckoned(word, asked, draws, lines)
        self.kept.append((key, answer))
        return answer

    def reckoned(self, word, asked, draws, lines):
        """An answer, reckoned with names in another order."""
        contents, seen = self.now
        world = tuple(contents[name][1] for name in draws) or (lump((0, 1)),)
        numbers = {name: place for place, name in enumerate(draws)}
        program = []
        left = list(lines)
        while left:
            name = [name for name in left if all(other in numbers for other in used_by(contents[name]))][-1]
            left.remove(name)
            content = contents[name]
            if content[0] == "sum":
                terms = tuple((f, number) for number, f in sorted((numbers[other], f) for f, other in content[1]))
                program.append(("sum", terms, content[2]))
            else:
                program.append((content[0],) + tuple(numbers.get(part, part) if part not in ("<", "<=", "=") else part for part in content[1:]))
            numbers[name] = len(world) + len(program) - 1
        given = None
        for remark in seen[::-1]:
            told = self.saying(remark, numbers)
            given = told if given is None else ("and", told, given)
        if word == "chance":
            return chance_given(world, tuple(program), self.saying(asked, numbers), given)
        work = mean_of if word == "mean" else spread_of
        return work(world, tuple(program), numbers[asked], given)

    def saying(self, remark, numbers):
        """The saying of a remark."""
        if remark[0] in ("and", "or", "not"):
            return (remark[0],) + tuple(self.saying(part, numbers) for part in remark[1:])
        return remark[0], numbers[remark[1]], numbers[remark[2]]
