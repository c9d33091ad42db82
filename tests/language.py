"""A reader of the package's files for the rules of LANGUAGE.md that can be seen in a file alone.

faults_of(name, source) tells the faults of one file, package_faults(sources) also those between files.
Where a rule allows more than the package needs, the reader may allow less.
"""

import ast
import builtins
import re

PACKAGE = "joinedever"
ERRORS = set(
    "Exception ValueError TypeError KeyError IndexError LookupError ZeroDivisionError ArithmeticError"
    " OverflowError RuntimeError NotImplementedError AttributeError StopIteration".split()
)
BUILTINS = ERRORS | set(
    "len range enumerate zip min max sum abs sorted reversed int str bool bytes list tuple dict set frozenset"
    " isinstance ord repr any all divmod".split()
)
# L23: these are gone through where they stand.
FLEETING = {"range", "enumerate", "zip", "reversed"}
TAKES_FLEETING = {"list", "tuple", "dict", "sorted", "sum", "any", "all", "enumerate", "zip", "min", "max"}
METHODS = set(
    "append clear copy count endswith extend find get index insert isalnum isalpha isdigit islower isspace isupper"
    " items join keys ljust lower lstrip partition pop remove replace reverse rfind rjust rpartition rsplit rstrip"
    " setdefault split splitlines startswith strip update upper values zfill bit_length add discard".split()
)
CHANGING = {"append", "clear", "extend", "insert", "pop", "remove", "reverse", "setdefault", "update", "sort"}
DOUBLE = {"__init__", "__eq__", "__repr__", "__str__", "__len__"}
NOWHERE = set("register mro elements open input version_info with_traceback add_note format format_map".split())
NOT_NAMES = set(
    "attrgetter breakpoint builtins compile copyright credits delattr dir eval exec exit gc getattr globals hasattr"
    " help id importlib license locals methodcaller os quit setattr super type vars sys __name__".split()
)
WORDS = re.compile(
    r"\b(type|typing|typing_extensions|enum|Enum|IntEnum|StrEnum|Flag|IntFlag|Generic|Protocol|ABC|ABCMeta"
    r"|namedtuple|NamedTuple|TypedDict|TYPE_CHECKING|abstractmethod)\b|dataclass|overload|contextmanager"
)
# L22: the keywords that builtins are called with.
KEYWORDS = {
    "sorted": {"key", "reverse"}, "min": {"key", "default"}, "max": {"key", "default"}, "sum": {"start"},
    "enumerate": {"start"}, "zip": {"strict"},
}
PLAIN_NAME = re.compile(r"[A-Za-z][A-Za-z0-9_]*\Z")
STATEMENTS = (
    ast.Assign, ast.AugAssign, ast.If, ast.While, ast.For, ast.Return, ast.Break, ast.Continue, ast.Pass, ast.Raise,
    ast.Assert, ast.Delete, ast.Try, ast.Expr, ast.FunctionDef, ast.ClassDef, ast.ImportFrom,
)
NOT_ALLOWED = (
    ast.GeneratorExp, ast.NamedExpr, ast.Starred, ast.Await, ast.Yield, ast.YieldFrom, ast.Div, ast.MatMult, ast.AnnAssign,
)


def is_docstring(node):
    return isinstance(node, ast.Expr) and isinstance(node.value, ast.Constant) and isinstance(node.value.value, str)


def text_faults(source):
    """L10, L14, L17: what is seen in the lines alone."""
    lines = source.split("\n")
    if len(lines) > 400:
        yield "L10", 0
    for number, line in enumerate(lines, 1):
        if len(line) > 120 or "\t" in line:
            yield "L10", number
        if any(not " " <= sign <= "~" for sign in line):
            yield "L14", number
        if WORDS.search(line):
            yield "L17", number


def module_faults(tree):
    """L2, L3, L15, L16: what stands at module level."""
    bound = []
    for node in tree.body:
        if isinstance(node, ast.ImportFrom):
            parts = (node.module or "").split(".")
            if node.level or len(parts) != 2 or parts[0] != PACKAGE:
                yield "L2", node.lineno
            for name in node.names:
                if name.name == "*" or name.asname:
                    yield "L2", node.lineno
                bound.append(name.name)
        elif isinstance(node, ast.Import):
            yield "L2", node.lineno
        elif isinstance(node, (ast.FunctionDef, ast.ClassDef)):
            bound.append(node.name)
        elif isinstance(node, ast.Assign):
            if len(node.targets) != 1 or not isinstance(node.targets[0], ast.Name):
                yield "L3", node.lineno
            else:
                bound.append(node.targets[0].id)
            if any(isinstance(part, (ast.Call, ast.Set, ast.ListComp, ast.DictComp)) for part in ast.walk(node.value)):
                yield "L3", node.lineno
            if any(isinstance(part, (ast.List, ast.Dict)) and part != node.value for part in ast.walk(node.value)):
                yield "L15", node.lineno
        elif not (is_docstring(node) and node == tree.body[0]):
            yield "L3", node.lineno
    if len(bound) != len(set(bound)):
        yield "L15", 0


def function_faults(tree):
    """L4, L5, L10, L28: functions and classes."""
    for node in ast.walk(tree):
        if isinstance(node, (ast.FunctionDef, ast.ClassDef)) and node.decorator_list:
            yield "L4", node.lineno
        if isinstance(node, (ast.FunctionDef, ast.Lambda)):
            if node.args.vararg or node.args.kwarg or node.args.posonlyargs:
                yield "L4", node.lineno
        if isinstance(node, ast.FunctionDef):
            if node.end_lineno - node.lineno + 1 > 40:
                yield "L10", node.lineno
            if node.returns or any(arg.annotation for arg in node.args.args):
                yield "L21", node.lineno
        if isinstance(node, ast.ClassDef):
            if len(node.bases) > 1 or node.keywords:
                yield "L5", node.lineno
            for part in node.body:
                if not isinstance(part, ast.FunctionDef) and not (is_docstring(part) and part == node.body[0]):
                    yield "L5", part.lineno
                if isinstance(part, ast.FunctionDef) and part.name.startswith("_") and part.name not in DOUBLE:
                    yield "L5", part.lineno
            names = [part.name for part in node.body if isinstance(part, ast.FunctionDef)]
            if len(names) != len(set(names)):
                yield "L18", node.lineno


def statement_faults(tree):
    """L6, L7, L20, L24, L27: statements and expressions."""
    for node in ast.walk(tree):
        at = getattr(node, "lineno", 0)
        if isinstance(node, ast.stmt) and not isinstance(node, STATEMENTS):
            yield "L6", at
        if isinstance(node, (ast.For, ast.While)) and node.orelse:
            yield "L6", at
        if isinstance(node, ast.Expr) and not isinstance(node.value, ast.Call) and not is_docstring(node):
            yield "L6", at
        if isinstance(node, NOT_ALLOWED):
            yield "L7", at
        if isinstance(node, ast.Constant) and isinstance(node.value, (float, complex)):
            yield "L7", at
        if isinstance(node, ast.Constant) and isinstance(node.value, str) and chr(37) in node.value:
            yield "L27", at
        if isinstance(node, ast.BinOp) and isinstance(node.op, ast.Pow):
            if not isinstance(node.right, ast.Constant) or not 0 <= node.right.value <= 64:
                yield "L27", at
        if isinstance(node, (ast.Set, ast.SetComp)):
            yield "L24", at
        if isinstance(node, ast.Compare):
            for op, right in zip(node.ops, node.comparators):
                plain = isinstance(right, ast.Constant) and right.value in (None, True, False)
                if isinstance(op, (ast.Is, ast.IsNot)) and not plain:
                    yield "L20", at


def error_faults(tree):
    """L19: what is caught and raised; of a caught error its own fields alone are read."""
    for node in ast.walk(tree):
        if isinstance(node, ast.Raise) and node.exc is not None:
            if not isinstance(node.exc, ast.Call) or not isinstance(node.exc.func, ast.Name):
                yield "L19", node.lineno
            if node.cause is not None and ast.unparse(node.cause) != "None":
                yield "L19", node.lineno
        if not isinstance(node, ast.ExceptHandler):
            continue
        # The package catches none of Python's errors but those that may be caught freely.
        if node.type is None or ast.unparse(node.type) in ERRORS - {"KeyError", "ZeroDivisionError", "StopIteration"}:
            yield "L19", node.lineno
        parts = [part for row in node.body for part in ast.walk(row)]
        read = {id(part.value) for part in parts if isinstance(part, ast.Attribute) and part.attr != "args"}
        for part in parts:
            if node.name and isinstance(part, ast.Name) and part.id == node.name and id(part) not in read:
                yield "L19", part.lineno


def names_in(tree):
    """Each name that the file gives a meaning, with its line; attributes that are set, too."""
    for node in ast.walk(tree):
        if isinstance(node, (ast.FunctionDef, ast.ClassDef)):
            yield node.name, node.lineno
        elif isinstance(node, ast.arg):
            yield node.arg, node.lineno
        elif isinstance(node, ast.Name) and not isinstance(node.ctx, ast.Load):
            yield node.id, node.lineno
        elif isinstance(node, ast.Attribute) and not isinstance(node.ctx, ast.Load):
            yield node.attr, node.lineno


def methods_in(tree):
    return {part.name for node in tree.body if isinstance(node, ast.ClassDef) for part in node.body
            if isinstance(part, ast.FunctionDef)}


def name_faults(tree):
    """L8, L12, L15, L17: names."""
    methods = methods_in(tree)
    for name, at in names_in(tree):
        if not PLAIN_NAME.match(name) and name not in DOUBLE:
            yield "L12", at
        if name in NOWHERE or name in NOT_NAMES:
            yield "L17", at
        if hasattr(builtins, name) and name not in methods:
            yield "L15", at
    kept = {name.name for node in tree.body if isinstance(node, ast.ImportFrom) for name in node.names}
    kept |= {node.name for node in tree.body if isinstance(node, ast.ClassDef)}
    for node in ast.walk(tree):
        local = node.arg if isinstance(node, ast.arg) else None
        if isinstance(node, ast.Name):
            if not isinstance(node.ctx, ast.Load):
                local = node.id
            elif hasattr(builtins, node.id) and node.id not in BUILTINS:
                yield "L8", node.lineno
        if local in kept:
            yield "L15", node.lineno


def module_values(tree):
    """The names of lists and dicts at module level, which L15 guards."""
    return {node.targets[0].id for node in tree.body
            if isinstance(node, ast.Assign) and isinstance(node.value, (ast.List, ast.Dict))}


def call_faults(tree, own):
    """L3, L15, L22, L23, L24, L25: calls; own are the names of the package's methods."""
    guarded = module_values(tree)
    good = set()
    for node in ast.walk(tree):
        if isinstance(node, (ast.For, ast.comprehension)):
            good.add(id(node.iter))
        if isinstance(node, ast.Call) and isinstance(node.func, ast.Name) and node.func.id in TAKES_FLEETING:
            good.update(id(part) for part in node.args)
    for node in ast.walk(tree):
        if not isinstance(node, ast.Call):
            continue
        if not isinstance(node.func, (ast.Name, ast.Attribute)):
            yield "L3", node.lineno
        words = {word.arg for word in node.keywords}
        builtin = isinstance(node.func, ast.Name) and node.func.id in BUILTINS
        if words and (isinstance(node.func, ast.Attribute) or builtin and words - KEYWORDS.get(node.func.id, set())):
            yield "L22", node.lineno
        if isinstance(node.func, ast.Name):
            if node.func.id in FLEETING and id(node) not in good:
                yield "L23", node.lineno
            if node.func.id == "set" or node.func.id == "frozenset":
                yield "L24", node.lineno
        elif isinstance(node.func, ast.Attribute):
            name = node.func.attr
            if name not in METHODS and name not in own and name != "__init__":
                yield "L25", node.lineno
            if name in ("keys", "values", "items") and id(node) not in good:
                yield "L23", node.lineno
            if name in CHANGING and ast.unparse(node.func.value) in guarded:
                yield "L15", node.lineno


def loop_faults(tree):
    """L23: what a loop goes through is not changed in it."""
    for loop in ast.walk(tree):
        if not isinstance(loop, ast.For):
            continue
        through = {ast.unparse(part) for part in ast.walk(loop.iter) if isinstance(part, (ast.Name, ast.Attribute))}
        for node in [part for row in loop.body for part in ast.walk(row)]:
            if isinstance(node, ast.Call) and isinstance(node.func, ast.Attribute) and node.func.attr in CHANGING:
                if ast.unparse(node.func.value) in through:
                    yield "L23", node.lineno
            if isinstance(node, ast.Subscript) and not isinstance(node.ctx, ast.Load):
                if ast.unparse(node.value) in through:
                    yield "L23", node.lineno


def faults_of(source, own=()):
    """The faults of one file: pairs of a rule and a line, 0 where no line is to be told.

    own are the names of methods that other files of the package have.
    """
    tree = ast.parse(source)
    readers = (module_faults, function_faults, statement_faults, error_faults, name_faults, loop_faults)
    found = set(text_faults(source))
    for reader in readers:
        found.update(reader(tree))
    found.update(call_faults(tree, methods_in(tree) | set(own)))
    return sorted(found)


def imports_of(tree):
    return {node.module.split(".")[-1]: {name.name for name in node.names}
            for node in tree.body if isinstance(node, ast.ImportFrom)}


def defined_in(tree):
    names = {node.name for node in tree.body if isinstance(node, (ast.FunctionDef, ast.ClassDef))}
    return names | {node.targets[0].id for node in tree.body if isinstance(node, ast.Assign)}


def import_faults(trees):
    """L16: each import names the file that defines the name, and none lead round."""
    behind = {name: imports_of(tree) for name, tree in trees.items()}
    for name, imports in behind.items():
        for module, wanted in imports.items():
            if module not in trees or wanted - defined_in(trees[module]):
                yield "L16", name
    left = dict(behind)
    while left:
        free = [name for name, imports in left.items() if not set(imports) & set(left)]
        if not free:
            yield "L16", sorted(left)[0]
            return
        for name in free:
            del left[name]


def class_faults(trees):
    """L18: no name is a method here and an attribute there; what is read is set by a class."""
    methods, fields, read = set(), set(), set()
    for tree in trees.values():
        methods |= methods_in(tree)
        for node in ast.walk(tree):
            if isinstance(node, ast.Attribute):
                (read if isinstance(node.ctx, ast.Load) else fields).add(node.attr)
    if methods & fields:
        yield "L18", sorted(methods & fields)[0]
    if read - methods - fields - METHODS - DOUBLE:
        yield "L18", sorted(read - methods - fields - METHODS)[0]


def package_faults(sources):
    """The faults of the package, of {file name without its ending: source}."""
    trees = {name: ast.parse(source) for name, source in sources.items()}
    own = {method for tree in trees.values() for method in methods_in(tree)}
    found = [(rule, name, at) for name, source in sources.items() for rule, at in faults_of(source, own)]
    for reader in (import_faults, class_faults):
        found += [(rule, where, 0) for rule, where in reader(trees)]
    for name in set(sources) - {"__init__"}:
        plain = re.match(r"[a-z][a-z0-9_]*\Z", name)
        barred = name.startswith(("law_", "test")) or name in NOWHERE | NOT_NAMES or hasattr(builtins, name)
        if not plain or barred or name in ("site", "conftest", "sitecustomize", "usercustomize"):
            found.append(("L14", name, 0))
    return found
