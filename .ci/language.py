"""Checks the package against those rules of shared/LANGUAGE.md that can be seen line by line.

It is no proof that all rules are kept: it catches slips. Its output names a rule, a file and a line.
"""

import ast
import pathlib
import re
import sys

PACKAGE = pathlib.Path(__file__).resolve().parent.parent / "unsureworks"

LIBRARY = {
    "math": "gcd lcm isqrt comb perm factorial", "heapq": "heappush heappop heapify heapreplace heappushpop",
    # Not product, combinations, permutations: sheets are iterated over and have a length.
    "itertools": "chain accumulate pairwise islice zip_longest",
    "collections": "defaultdict", "__future__": "annotations",
}
BUILTINS = set("""len range enumerate zip min max sum abs sorted reversed int str bool list tuple dict set frozenset
isinstance ord repr any all divmod pow getattr hasattr setattr iter next map property staticmethod classmethod super
object float bytes Exception ValueError TypeError KeyError IndexError LookupError ZeroDivisionError ArithmeticError
OverflowError RuntimeError NotImplementedError AttributeError StopIteration NotImplemented""".split())
METHODS = set("""append clear copy count endswith extend find get index insert isalnum isalpha isdigit islower isspace
isupper items join keys ljust lower lstrip partition pop remove replace reverse rfind rjust rpartition rsplit rstrip
setdefault split splitlines startswith strip update upper values zfill bit_length title capitalize swapcase casefold
center expandtabs removeprefix removesuffix rindex isascii isdecimal isnumeric istitle isidentifier isprintable
translate add discard format""".split())
BARRED = set("""register mro elements open input law version_info with_traceback add_note attrgetter breakpoint builtins
compile copyright credits delattr dir eval exec exit gc globals help id importlib license locals methodcaller os quit
type vars sys typing typing_extensions enum Enum IntEnum StrEnum Flag IntFlag Generic Protocol ABC ABCMeta namedtuple
NamedTuple TypedDict TYPE_CHECKING abstractmethod dataclass overload contextmanager""".split())
BARRED_NODES = {
    ast.Global: "L6", ast.AsyncFunctionDef: "L6", ast.Await: "L6", ast.AsyncFor: "L6", ast.AsyncWith: "L6",
    ast.GeneratorExp: "L7", ast.Import: "L16",
}
VIEWS = "enumerate zip reversed items keys values".split()
CHANGES = "append clear extend insert pop remove reverse setdefault update add discard sort".split()
PLAIN_NAME = re.compile("_|_?[A-Za-z][A-Za-z0-9_]*|__(init|eq|ne|repr|str|len|iter|contains|getitem|call)__")


def bound_names(tree):
    """All pairs of a name that is bound somewhere in a tree, and the node that binds it."""
    for node in ast.walk(tree):
        if isinstance(node, (ast.FunctionDef, ast.ClassDef)):
            yield node.name, node
        elif isinstance(node, ast.arg):
            yield node.arg, node
        elif isinstance(node, ast.Name) and isinstance(node.ctx, ast.Store):
            yield node.id, node
        elif isinstance(node, ast.ExceptHandler) and node.name:
            yield node.name, node


def import_faults(node):
    """Faults of one import."""
    names = [found.name for found in node.names]
    if node.level or any(found.asname for found in node.names) or "*" in names:
        yield "L2", node
    elif node.module.startswith("unsureworks."):
        path = PACKAGE.parent / (node.module.replace(".", "/") + ".py")
        told = [found for found in ast.parse(path.read_text()).body] if path.exists() else []
        defined = {found.name for found in told if isinstance(found, (ast.FunctionDef, ast.ClassDef))}
        defined |= {target.id for found in told if isinstance(found, ast.Assign) for target in found.targets}
        if not set(names) <= defined:
            yield "L16", node
    elif not set(names) <= set(LIBRARY.get(node.module, "").split()):
        yield "L2", node


def top_faults(tree):
    """Faults of what stands at module level."""
    seen = set()
    for place, node in enumerate(tree.body):
        names = []
        if isinstance(node, ast.ImportFrom):
            names = [found.name for found in node.names]
            yield from import_faults(node)
        elif isinstance(node, (ast.FunctionDef, ast.ClassDef)):
            names = [node.name]
        elif isinstance(node, ast.Assign) and len(node.targets) == 1 and isinstance(node.targets[0], ast.Name):
            names = [node.targets[0].id]
            if any(isinstance(part, (ast.Call, ast.ListComp)) for part in ast.walk(node)):
                yield "L3", node
        elif not (place == 0 and isinstance(node, ast.Expr) and isinstance(node.value, ast.Constant)):
            yield "L3", node
        if seen & set(names):
            yield "L15", node
        seen |= set(names)


def node_faults(node, own_methods):
    """Faults of a single node."""
    if type(node) in BARRED_NODES:
        yield BARRED_NODES[type(node)], node
    if isinstance(node, (ast.BinOp, ast.AugAssign)) and isinstance(node.op, (ast.Div, ast.MatMult)):
        yield "L7", node
    if isinstance(node, ast.Constant) and isinstance(node.value, (float, complex)):
        yield "L7", node
    if isinstance(node, ast.Constant) and isinstance(node.value, str) and "%" in node.value:
        yield "L27", node
    if isinstance(node, ast.BinOp) and isinstance(node.op, ast.Pow) and not isinstance(node.right, ast.Constant):
        yield "L27", node
    if isinstance(node, ast.Call) and isinstance(node.func, ast.Attribute):
        if node.func.attr not in METHODS | own_methods and node.func.attr != "__init__":
            yield "L25", node
    if isinstance(node, ast.FunctionDef) and node.end_lineno - node.lineno >= 40:
        yield "L10", node
    if isinstance(node, ast.Compare) and any(isinstance(op, (ast.Is, ast.IsNot)) for op in node.ops):
        if not all(isinstance(side, ast.Constant) for side in node.comparators):
            yield "L20", node
    if isinstance(node, ast.ExceptHandler) and node.type is None:
        yield "L19", node
    if isinstance(node, (ast.Name, ast.Attribute, ast.arg)):
        if {getattr(node, "id", ""), getattr(node, "attr", ""), getattr(node, "arg", "")} & BARRED:
            yield "L17", node


def may_be(node):
    """The names, attributes and items that a value may be, where it is one of these or a choice of them."""
    if isinstance(node, ast.IfExp):
        return may_be(node.body) + may_be(node.orelse)
    if isinstance(node, ast.BoolOp):
        return [found for value in node.values for found in may_be(value)]
    if isinstance(node, ast.Subscript) and isinstance(node.slice, ast.Slice):
        return []
    return [node] if isinstance(node, (ast.Name, ast.Attribute, ast.Subscript)) else []


def walked_by(node):
    """What a loop over a value walks, without what only looks through it."""
    if isinstance(node, ast.Call) and isinstance(node.func, ast.Name) and node.func.id in VIEWS:
        return [found for argument in node.args for found in walked_by(argument)]
    if isinstance(node, ast.Call) and isinstance(node.func, ast.Attribute) and node.func.attr in VIEWS:
        return walked_by(node.func.value)
    return may_be(node)


def changed_by(node):
    """The values of more than one item that a statement or a call changes itself, not by what it calls."""
    if isinstance(node, ast.AugAssign):
        return [node.target] + holders_of(node.target)
    if isinstance(node, ast.Assign) or isinstance(node, ast.Delete):
        return [found for target in node.targets for found in holders_of(target)]
    if isinstance(node, ast.Call) and isinstance(node.func, ast.Attribute) and node.func.attr in CHANGES:
        return may_be(node.func.value)
    return []


def holders_of(target):
    """The values of which a target is an item."""
    if isinstance(target, ast.Tuple):
        return [found for part in target.elts for found in holders_of(part)]
    return [target.value] if isinstance(target, ast.Subscript) else []


def alike_in(function):
    """A dict from each text of a name or attribute to the set of those that may stand for the same value."""
    alike = {}
    for node in ast.walk(function):
        targets = node.targets if isinstance(node, ast.Assign) else []
        for target in targets:
            pairs = [(target, node.value)]
            if isinstance(target, ast.Tuple) and isinstance(node.value, ast.Tuple):
                pairs = list(zip(target.elts, node.value.elts))
            for one, value in pairs:
                texts = {ast.unparse(found) for found in [one] + may_be(value)}
                together = texts.union(*[alike.get(text, set()) for text in texts])
                alike.update({text: together for text in together})
    return alike


def root_of(node):
    """The text of what a value is an item of, or an item of an item, or of the value itself."""
    while isinstance(node, ast.Subscript):
        node = node.value
    return ast.unparse(node)


def loop_faults(function):
    """Faults of what is changed in a loop that walks it, by this name or another one of it."""
    alike = alike_in(function)
    for node in ast.walk(function):
        heads, rows = [], []
        if isinstance(node, ast.For):
            heads, rows = [node.iter], node.body
        elif isinstance(node, (ast.ListComp, ast.DictComp, ast.SetComp)):
            heads, rows = [part.iter for part in node.generators], [node]
        walked = {ast.unparse(found) for head in heads for found in walked_by(head)}
        walked = walked.union(*[alike.get(text, set()) for text in walked])
        for inner in [inner for row in rows for inner in ast.walk(row)]:
            if walked & {ast.unparse(found) for found in changed_by(inner)}:
                yield "L23", inner


def own_walk_faults(node):
    """Faults of a += or |=, an extend or an update that walks what it changes, or may do so."""
    changed, walked = None, []
    if isinstance(node, ast.AugAssign) and isinstance(node.op, (ast.Add, ast.BitOr)):
        changed, walked = node.target, [node.value]
    elif isinstance(node, ast.Call) and isinstance(node.func, ast.Attribute):
        if node.func.attr == "extend" or node.func.attr == "update":
            changed, walked = node.func.value, node.args
    roots = [root_of(found) for value in walked for found in may_be(value)]
    if changed is not None and root_of(changed) in roots:
        yield "L23", node


def name_faults(tree):
    """Faults of names: those that are bound, and those of builtins that are read."""
    imports = {found.name for node in tree.body if isinstance(node, ast.ImportFrom) for found in node.names}
    classes = {node.name for node in tree.body if isinstance(node, ast.ClassDef)}
    builtins = set(dir(__builtins__))
    bound = set(imports)
    for name, node in bound_names(tree):
        bound.add(name)
        is_class = isinstance(node, ast.ClassDef)
        if name in builtins:
            yield "L15", node
        if name in imports or (name in classes and not is_class):
            yield "L15", node
        if not PLAIN_NAME.fullmatch(name):
            yield "L12", node
    for node in ast.walk(tree):
        if isinstance(node, ast.Name) and node.id not in bound and node.id not in BUILTINS:
            yield "L8", node


def file_faults(path, own_methods):
    """Faults of one file, as pairs of a rule and a line."""
    text = path.read_text()
    lines = text.split("\n")
    if len(lines) > 400:
        yield "L10", 1
    for count, line in enumerate(lines, 1):
        if len(line) > 120 or "\t" in line:
            yield "L10", count
        if not all(" " <= sign <= "~" for sign in line):
            yield "L14", count
    tree = ast.parse(text)
    faults = list(top_faults(tree)) + list(name_faults(tree))
    for node in ast.walk(tree):
        faults += node_faults(node, own_methods)
        faults += own_walk_faults(node)
        if isinstance(node, ast.FunctionDef):
            faults += loop_faults(node)
    for rule, node in faults:
        yield rule, node.lineno


def main():
    """Print all faults; 1 if there are some."""
    paths = [path for path in sorted(PACKAGE.rglob("*")) if "__pycache__" not in path.parts and path.is_file()]
    own_methods = set()
    for path in paths:
        for node in ast.walk(ast.parse(path.read_text())):
            if isinstance(node, ast.ClassDef):
                own_methods |= {found.name for found in node.body if isinstance(found, ast.FunctionDef)}
    faults = []
    for path in paths:
        if not re.fullmatch("[a-z0-9_]+[.]py", path.name):
            faults.append(f"L1 {path.name}")
        faults += [f"{rule} {path.name}:{line}" for rule, line in file_faults(path, own_methods)]
    for fault in faults:
        print(fault)
    print(f"language: {len(paths)} files, {len(faults)} faults")
    return 1 if faults else 0


if __name__ == "__main__":
    sys.exit(main())
