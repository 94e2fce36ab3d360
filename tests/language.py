"""Looks for what lies outside the small part of Python that the package keeps to.

It sees the rules that a form alone tells (most of L1 to L18, L20, L22 to L27);
the others are left to whoever reads the code.
"""

import ast
import builtins
import re

PACKAGE = "cellkeep"

BUILTINS = set(
    "len range enumerate zip min max sum abs sorted reversed int str bool list tuple dict set frozenset "
    "isinstance ord repr any all divmod Exception ValueError TypeError KeyError IndexError LookupError "
    "ZeroDivisionError ArithmeticError OverflowError RuntimeError NotImplementedError AttributeError "
    "StopIteration".split()
)
METHODS = set(
    "append clear copy count endswith extend find get index insert isalnum isalpha isdigit islower isspace "
    "isupper items join keys ljust lower lstrip partition pop remove replace reverse rfind rjust rpartition "
    "rsplit rstrip setdefault split splitlines startswith strip update upper values zfill bit_length".split()
)
TWO_UNDERSCORES = {"__init__", "__eq__", "__repr__", "__str__", "__len__"}
NEVER_NAMES = set(
    "register mro elements open input version_info with_traceback add_note attrgetter breakpoint builtins "
    "compile copyright credits delattr dir eval exec exit gc getattr globals hasattr help id importlib "
    "license locals methodcaller os quit setattr super type vars sys format format_map".split()
)
NEVER_WORDS = re.compile(
    r"\b(type|typing|typing_extensions|enum|Enum|IntEnum|StrEnum|Flag|IntFlag|Generic|Protocol|ABC|ABCMeta|"
    r"namedtuple|NamedTuple|TypedDict|TYPE_CHECKING|abstractmethod)\b|dataclass|overload|contextmanager"
)
NEVER_FILES = re.compile(r"tests?|testing|test_.*|site|conftest|sitecustomize|usercustomize")

# What Python's own values have: an own method or value bears such a name only where L26 lets it.
PYTHONS_OWN = {name for thing in ["", 0, [], (), {}, set(), b""] for name in dir(thing)}
FREE_VALUES = set("count index title find get join lower upper split strip copy add".split())
WALKED = {"zip", "enumerate", "reversed", "range"}
WALKED_METHODS = {"items", "keys", "values"}
WALKERS = set("list tuple dict sorted sum any all enumerate zip min max".split())
KEYWORDS = {
    "sorted": ("key", "reverse"), "min": ("key", "default"), "max": ("key", "default"),
    "sum": ("start",), "enumerate": ("start",), "zip": ("strict",),
}

NODES = (
    ast.Module, ast.ImportFrom, ast.alias, ast.FunctionDef, ast.Lambda, ast.arguments, ast.arg, ast.ClassDef,
    ast.Assign, ast.AugAssign, ast.If, ast.While, ast.For, ast.Return, ast.Break, ast.Continue, ast.Pass,
    ast.Raise, ast.Try, ast.ExceptHandler, ast.Expr, ast.Constant, ast.List, ast.Tuple, ast.Dict, ast.Set,
    ast.BinOp, ast.UnaryOp, ast.BoolOp, ast.Compare, ast.IfExp, ast.Call, ast.keyword, ast.Attribute,
    ast.Subscript, ast.Slice, ast.ListComp, ast.comprehension, ast.JoinedStr, ast.FormattedValue, ast.Name,
    ast.expr_context, ast.boolop, ast.operator, ast.unaryop, ast.cmpop,
)


def complaints(files):
    """What is wrong in a dict from file names to their texts, a list of texts."""
    trees = {name: ast.parse(text) for name, text in files.items()}
    methods = METHODS | {
        part.name for tree in trees.values() for node in ast.walk(tree)
        if isinstance(node, ast.ClassDef) for part in node.body if isinstance(part, ast.FunctionDef)
    }
    found = of_classes(trees)
    for name, text in files.items():
        told = of_text(name, text) + of_top(trees[name]) + of_imports(trees[name], trees)
        told += of_locals(trees[name]) + of_walked(trees[name]) + of_sets(trees[name])
        told += of_tables(trees[name]) + of_handed(trees[name], methods) + of_keywords(trees[name])
        for node in ast.walk(trees[name]):
            told += of_node(node, methods)
        found += [f"{name}: {line}" for line in told]
    return found + of_circles(trees)


def of_text(name, text):
    told = []
    if not re.fullmatch(r"[a-z][a-z0-9_]*\.py|__init__\.py|__main__\.py", name):
        told.append("L14: file name")
    stem = name[:-len(".py")]
    if NEVER_FILES.fullmatch(stem) or stem in vars(builtins):
        told.append("L14: file name is taken")
    if re.search(r"[^ -~\n]", text):
        told.append("L14: sign")
    lines = text.splitlines()
    if len(lines) > 400:
        told.append("L10: file too long")
    told += [f"L10: line {at} too long" for at, line in enumerate(lines, 1) if len(line) > 120]
    told += [f"L17: word {match.group()}" for match in NEVER_WORDS.finditer(text)]
    return told


def is_text(node):
    return isinstance(node, ast.Expr) and isinstance(node.value, ast.Constant) and isinstance(node.value.value, str)


def is_plain(node):
    if isinstance(node, (ast.List, ast.Tuple)):
        return all(is_plain(part) for part in node.elts)
    if isinstance(node, ast.Dict):
        return all(is_plain(part) for part in node.keys + node.values)
    if isinstance(node, ast.UnaryOp):
        return isinstance(node.op, ast.USub) and isinstance(node.operand, ast.Constant)
    return isinstance(node, (ast.Constant, ast.Name))


def bound_at_top(tree):
    bound = []
    for node in tree.body:
        if isinstance(node, (ast.FunctionDef, ast.ClassDef)):
            bound.append(node.name)
        elif isinstance(node, ast.Assign):
            bound += [target.id for target in node.targets if isinstance(target, ast.Name)]
    return bound


def of_top(tree):
    told = []
    for at, node in enumerate(tree.body):
        if isinstance(node, (ast.ImportFrom, ast.FunctionDef, ast.ClassDef)) or (at == 0 and is_text(node)):
            continue
        named = isinstance(node, ast.Assign) and isinstance(node.targets[0], ast.Name)
        if not named or not is_plain(node.value):
            told.append(f"L3: line {node.lineno}")
    bound = bound_at_top(tree)
    told += [f"L15: {name} bound twice" for name in sorted(set(bound)) if bound.count(name) > 1]
    return told


def drawn(tree):
    return [node for node in ast.walk(tree) if isinstance(node, ast.ImportFrom) and node.module != "__future__"]


def of_imports(tree, trees):
    told = []
    for node in drawn(tree):
        parts = (node.module or "").split(".")
        source = parts[-1] + ".py"
        if node.level or len(parts) != 2 or parts[0] != PACKAGE or source not in trees:
            told.append(f"L2: line {node.lineno}")
        elif node not in tree.body:
            told.append(f"L2: line {node.lineno} not at the top")
        else:
            bound = bound_at_top(trees[source])
            told += [f"L16: {alias.name} is not of {source}" for alias in node.names if alias.name not in bound]
    return told


def of_circles(trees):
    draws = {name: {"__init__.py"} for name in trees}
    for name, tree in trees.items():
        draws[name] |= {(node.module or "").split(".")[-1] + ".py" for node in drawn(tree)}
    draws["__init__.py"] = draws.get("__init__.py", set()) - {"__init__.py"}
    left = dict(draws)
    while True:
        free = [name for name in left if not draws[name] & set(left)]
        if not free:
            return [f"{name}: L16: draws in a circle" for name in left]
        for name in free:
            left.pop(name)


def of_classes(trees):
    """L18: no name is a method here and a value there; L26: what both may be called."""
    methods, values, told = set(), set(), []
    for tree in trees.values():
        for node in ast.walk(tree):
            if isinstance(node, ast.ClassDef):
                own = [part.name for part in node.body if isinstance(part, ast.FunctionDef)]
                told += [f"L18: method {name} twice" for name in sorted(set(own)) if own.count(name) > 1]
                methods |= set(own)
            elif isinstance(node, ast.Attribute) and isinstance(node.ctx, ast.Store):
                values.add(node.attr)
    told += [f"L18: {name} is a method and a value" for name in sorted(methods & values)]
    taken = methods & PYTHONS_OWN - METHODS - TWO_UNDERSCORES - {"add", "discard"}
    taken |= values & PYTHONS_OWN - FREE_VALUES
    return told + [f"L26: {name}" for name in sorted(taken)]


def of_locals(tree):
    """L15: no parameter and no local is called like a class or an import of its file."""
    taken = {alias.asname or alias.name for node in drawn(tree) for alias in node.names}
    taken |= {node.name for node in ast.walk(tree) if isinstance(node, ast.ClassDef)}
    bound = [(node.arg, node) for node in ast.walk(tree) if isinstance(node, ast.arg)]
    bound += [(node.id, node) for node in ast.walk(tree)
              if isinstance(node, ast.Name) and isinstance(node.ctx, ast.Store)]
    return [f"L15: line {node.lineno} {name}" for name, node in bound if name in taken]


def called(node):
    return node.func.id if isinstance(node, ast.Call) and isinstance(node.func, ast.Name) else None


def of_walked(tree):
    """L23: range and its like are walked on the spot."""
    walked = set()
    for node in ast.walk(tree):
        if isinstance(node, (ast.For, ast.comprehension)):
            walked.add(node.iter)
        elif called(node) in WALKERS and node.args:
            walked |= set(node.args if called(node) == "zip" else node.args[:1])
        elif isinstance(node, ast.Call) and isinstance(node.func, ast.Attribute) and node.func.attr == "join":
            walked |= set(node.args)
    return [
        f"L23: line {node.lineno}" for node in ast.walk(tree)
        if isinstance(node, ast.Call) and node not in walked
        and (called(node) in WALKED or isinstance(node.func, ast.Attribute) and node.func.attr in WALKED_METHODS)
    ]


def of_sets(tree):
    """L24: a set is asked on the spot, not kept and not walked."""
    asked = set()
    for node in ast.walk(tree):
        if isinstance(node, ast.Compare):
            asked |= {node.left, *node.comparators}
        elif called(node) in ("sorted", "len"):
            asked |= set(node.args)
    for node in ast.walk(tree):
        if isinstance(node, ast.BinOp) and node in asked:
            asked |= {node.left, node.right}
    return [
        f"L24: line {node.lineno}" for node in ast.walk(tree)
        if (isinstance(node, ast.Set) or called(node) in ("set", "frozenset")) and node not in asked
    ]


def of_tables(tree):
    """L15: a list or dict of a file's top holds none itself, and is only read."""
    tops = [node for node in tree.body if isinstance(node, ast.Assign) and isinstance(node.value, (ast.List, ast.Dict))]
    told = [
        f"L15: line {part.lineno} list or dict within another" for node in tops for part in ast.walk(node.value)
        if part is not node.value and isinstance(part, (ast.List, ast.Dict))
    ]
    names = {node.targets[0].id for node in tops if isinstance(node.targets[0], ast.Name)}
    read = set()
    for node in ast.walk(tree):
        if isinstance(node, ast.Subscript) and isinstance(node.ctx, ast.Load):
            read.add(node.value)
        elif isinstance(node, (ast.For, ast.comprehension)):
            read.add(node.iter)
        elif isinstance(node, ast.Compare):
            read |= {node.left, *node.comparators}
        elif called(node) in WALKERS | {"len", "reversed"}:
            read |= set(node.args)
        elif isinstance(node, ast.Attribute) and node.attr in WALKED_METHODS | {"get", "count", "index", "copy"}:
            read.add(node.value)
    return told + [
        f"L15: line {node.lineno} {node.id}" for node in ast.walk(tree)
        if isinstance(node, ast.Name) and isinstance(node.ctx, ast.Load) and node.id in names and node not in read
    ]


def of_handed(tree, methods):
    """L22, L25: methods and Python's own are called where they stand, never handed on (but as a key)."""
    calls = [node for node in ast.walk(tree) if isinstance(node, ast.Call)]
    used = {node.func for node in calls}
    used |= {word.value for node in calls for word in node.keywords if word.arg == "key"}
    used |= {part for node in calls if called(node) == "isinstance" for part in ast.walk(node)}
    told = []
    for node in ast.walk(tree):
        if isinstance(node, ast.Attribute) and isinstance(node.ctx, ast.Load) and node not in used:
            if node.attr in methods - FREE_VALUES:
                told.append(f"L25: line {node.lineno} {node.attr}")
        elif isinstance(node, ast.Name) and node.id in BUILTINS and node.id[0].islower() and node not in used:
            told.append(f"L22: line {node.lineno} {node.id}")
    return told


def of_keywords(tree):
    """L22: which keywords stand at calls of Python's own."""
    told = []
    for node in ast.walk(tree):
        if not isinstance(node, ast.Call):
            continue
        at_own = called(node) in BUILTINS or isinstance(node.func, ast.Attribute) and node.func.attr in METHODS
        free = KEYWORDS.get(called(node), ())
        told += [f"L22: line {node.lineno} {word.arg}" for word in node.keywords if at_own and word.arg not in free]
    return told


def of_node(node, methods):
    line = f"line {getattr(node, 'lineno', 0)}"
    if not isinstance(node, NODES):
        return [f"L6, L7: {line} {node.__class__.__name__}"]
    told = []
    if isinstance(node, (ast.FunctionDef, ast.Lambda)):
        told += of_def(node, line)
    elif isinstance(node, ast.ClassDef):
        told += of_class(node, line)
    elif isinstance(node, (ast.Name, ast.arg)):
        told += of_name(node.id if isinstance(node, ast.Name) else node.arg, node, line)
    elif isinstance(node, ast.Attribute):
        if node.attr in NEVER_NAMES or (node.attr.startswith("_") and node.attr not in TWO_UNDERSCORES):
            told.append(f"L12, L17: {line} {node.attr}")
    elif isinstance(node, ast.Call) and isinstance(node.func, ast.Attribute):
        if node.func.attr not in methods | TWO_UNDERSCORES:
            told.append(f"L25: {line} {node.func.attr}")
    else:
        told += of_rest(node, line)
    return told


def of_def(node, line):
    told = []
    handed = node.args
    if handed.vararg or handed.kwarg or handed.kwonlyargs or handed.posonlyargs:
        told.append(f"L4: {line} parameters")
    if isinstance(node, ast.FunctionDef):
        if node.decorator_list:
            told.append(f"L4: {line} decorator")
        if node.end_lineno - node.lineno >= 40:
            told.append(f"L10: {line} function too long")
        if node.name not in TWO_UNDERSCORES and (node.name.startswith("_") or node.name in NEVER_NAMES):
            told.append(f"L12: {line} {node.name}")
    return told


def of_class(node, line):
    told = []
    if node.decorator_list or node.keywords or len(node.bases) > 1 or node.col_offset:
        told.append(f"L5, L15: {line} class")
    if not all(isinstance(part, (ast.FunctionDef, ast.Pass)) or is_text(part) for part in node.body):
        told.append(f"L5: {line} value in a class")
    return told


def of_name(name, node, line):
    own = isinstance(node, ast.Name) and isinstance(node.ctx, ast.Load)
    if name.startswith("_") or not name.isascii() or name in NEVER_NAMES:
        return [f"L12, L17: {line} {name}"]
    if name in vars(builtins) and (name not in BUILTINS or not own):
        return [f"L8, L15: {line} {name}"]
    return []


def of_rest(node, line):
    told = []
    if isinstance(node, ast.Constant):
        if isinstance(node.value, (float, complex, bytes)):
            told.append(f"L7: {line} value")
        if isinstance(node.value, str) and "%" in node.value:
            told.append(f"L27: {line} sign in a text")
    elif isinstance(node, (ast.Assign, ast.For, ast.While)):
        if len(getattr(node, "targets", [1])) > 1 or getattr(node, "orelse", []):
            told.append(f"L6: {line}")
        # Several names on the left may count as several targets, so none are used.
        if isinstance(node, ast.Assign) and isinstance(node.targets[0], (ast.Tuple, ast.List)):
            told.append(f"L6: {line} targets")
    elif isinstance(node, ast.Try):
        if node.finalbody:
            told.append(f"L6: {line} finally")
    elif isinstance(node, ast.ExceptHandler):
        if node.type is None or {"Exception", "TypeError"} & {part.id for part in ast.walk(node.type)
                                                               if isinstance(part, ast.Name)}:
            told.append(f"L19: {line} except")
    elif isinstance(node, ast.Raise):
        if not isinstance(node.exc, ast.Call):
            told.append(f"L19: {line} raise")
    elif isinstance(node, ast.Compare):
        told += of_compare(node, line)
    elif isinstance(node, (ast.BinOp, ast.AugAssign)):
        told += of_sum(node, line)
    elif isinstance(node, ast.FormattedValue):
        if not isinstance(node.value, ast.Name) or node.format_spec or node.conversion not in (-1, ord("r")):
            told.append(f"L7: {line} f-string")
    elif isinstance(node, ast.comprehension):
        if len(node.ifs) > 1:
            told.append("L7: comprehension")
    elif isinstance(node, ast.ListComp):
        if len(node.generators) > 1:
            told.append(f"L7: {line} comprehension")
    return told


def of_compare(node, line):
    sides = [node.left] + node.comparators
    for at, sign in enumerate(node.ops):
        if isinstance(sign, (ast.Is, ast.IsNot)):
            pair = [side for side in sides[at:at + 2] if isinstance(side, ast.Constant)]
            if not [side for side in pair if side.value is None or isinstance(side.value, bool)]:
                return [f"L20: {line} is"]
    return []


def of_sum(node, line):
    if isinstance(node.op, (ast.Div, ast.MatMult)):
        return [f"L7: {line} sign"]
    if isinstance(node.op, ast.Pow):
        power = getattr(node, "right", getattr(node, "value", None))
        written = isinstance(power, ast.Constant) and isinstance(power.value, int)
        if not written or not 0 <= power.value <= 64:
            return [f"L27: {line} power"]
    return []
