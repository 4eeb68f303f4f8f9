"""Looks through the package's files for what LANGUAGE.md rules out; tells (rule, line, words).

Looked at is what a tree of the code shows easily. Not looked at, and left to the reader, are L9,
L11, L13, L18, L26 and L28; what is kept or changed through lists and dicts (L15, L23); where an
error may be taken (L19); what is handed to `isinstance` and `key=` (L22); sets in longer
expressions (L24); escapes and long numbers (L27); the names of Python's frames (L17).
"""

import ast
import builtins
import re
from types import NoneType

PACKAGE = "neverbelow"
OWN_NAMES = set(
    "len range enumerate zip min max sum abs sorted reversed int str bool list tuple dict set frozenset "
    "isinstance ord repr any all divmod Exception ValueError TypeError KeyError IndexError LookupError "
    "ZeroDivisionError ArithmeticError OverflowError RuntimeError NotImplementedError AttributeError "
    "StopIteration".split()
)
PYTHON_NAMES = set(dir(builtins))
METHODS = set(
    "append clear copy count endswith extend find get index insert isalnum isalpha isdigit islower isspace "
    "isupper items join keys ljust lower lstrip partition pop remove replace reverse rfind rjust rpartition "
    "rsplit rstrip setdefault split splitlines startswith strip update upper values zfill bit_length".split()
)
TWO_UNDERSCORES = set("__init__ __eq__ __repr__ __str__ __len__".split())
UNUSED_ANYWHERE = set(
    "register mro elements open input version_info with_traceback add_note format format_map".split()
)
UNUSED_NAMES = set(
    "attrgetter breakpoint builtins compile copyright credits delattr dir eval exec exit gc getattr globals "
    "hasattr help id importlib license locals methodcaller os quit setattr super type vars".split()
)
UNUSED_WORDS = re.compile(
    r"\b(type|typing|typing_extensions|enum|Enum|IntEnum|StrEnum|Flag|IntFlag|Generic|Protocol|ABC|ABCMeta"
    r"|namedtuple|NamedTuple|TypedDict|TYPE_CHECKING|abstractmethod)\b|dataclass|overload|contextmanager"
)
UNUSED_FILES = set("test tests testing site conftest sitecustomize usercustomize enum typing".split())
STATEMENTS = (
    ast.Assign, ast.AugAssign, ast.If, ast.While, ast.For, ast.Return, ast.Break, ast.Continue, ast.Pass,
    ast.Raise, ast.Try, ast.Expr, ast.FunctionDef, ast.ClassDef, ast.ImportFrom,
)
EXPRESSIONS = (
    ast.Constant, ast.List, ast.Tuple, ast.Dict, ast.Set, ast.BinOp, ast.UnaryOp, ast.Compare, ast.BoolOp,
    ast.IfExp, ast.Call, ast.Attribute, ast.Subscript, ast.Slice, ast.ListComp, ast.JoinedStr,
    ast.FormattedValue, ast.Name, ast.Lambda,
)
LAZY = set("zip enumerate reversed range".split())
WALKERS = set("list tuple dict sorted sum any all enumerate zip min max".split())
KEYWORDS = {
    "sorted": ("key", "reverse"), "min": ("key", "default"), "max": ("key", "default"),
    "sum": ("start",), "enumerate": ("start",), "zip": ("strict",),
}


def faults_of_file_name(name):
    stem = name[:-3]
    if stem in ("__init__", "__main__") and name.endswith(".py"):
        return []
    if not re.fullmatch(r"[a-z][a-z0-9_]*\.py", name):
        return [("L1", 0, name)]
    if stem in UNUSED_FILES or stem.startswith("test_") or stem in PYTHON_NAMES:
        return [("L14", 0, name)]
    return []


def faults_of_text(text):
    found = []
    lines = text.split("\n")
    if len(lines) > 401:
        found.append(("L10", 0, "more than 400 lines"))
    for place, line in enumerate(lines, start=1):
        if len(line) > 120:
            found.append(("L10", place, "more than 120 signs"))
        if any(not " " <= sign <= "~" for sign in line):
            found.append(("L14", place, "a sign beyond the plain ones"))
        if UNUSED_WORDS.search(line):
            found.append(("L17", place, UNUSED_WORDS.search(line).group()))
    return found


def is_plain(node, known):
    if isinstance(node, ast.Constant):
        return node.value is None or isinstance(node.value, (int, str))
    if isinstance(node, ast.UnaryOp):
        return is_plain(node.operand, known)
    if isinstance(node, (ast.List, ast.Tuple)):
        return all(is_plain(one, known) for one in node.elts)
    if isinstance(node, ast.Dict):
        return all(is_plain(one, known) for one in node.keys + node.values)
    return isinstance(node, ast.Name) and node.id in known


def is_docstring(node):
    return isinstance(node, ast.Expr) and isinstance(node.value, ast.Constant) and isinstance(node.value.value, str)


def bound_at_top(tree):
    found = []
    for node in tree.body:
        if isinstance(node, (ast.FunctionDef, ast.ClassDef)):
            found.append(node.name)
        elif isinstance(node, ast.ImportFrom):
            found.extend(alias.asname or alias.name for alias in node.names)
        elif isinstance(node, ast.Assign):
            found.extend(target.id for target in node.targets if isinstance(target, ast.Name))
    return found


def faults_of_top(tree):
    found = []
    functions = set()
    for place, node in enumerate(tree.body):
        if isinstance(node, ast.FunctionDef):
            functions.add(node.name)
        elif isinstance(node, ast.Assign):
            if not isinstance(node.targets[0], ast.Name) or not is_plain(node.value, functions):
                found.append(("L3", node.lineno, "no plain value"))
        elif not isinstance(node, (ast.ClassDef, ast.ImportFrom)) and not (place == 0 and is_docstring(node)):
            found.append(("L3", node.lineno, "not for a module's top"))
    names = bound_at_top(tree)
    found.extend(("L15", 0, f"{name} bound twice") for name in sorted(set(names)) if names.count(name) > 1)
    return found


def faults_of_imports(tree, defined):
    """defined: for each module name of the package, the names that its own file defines."""
    found = []
    for node in ast.walk(tree):
        if isinstance(node, ast.ImportFrom):
            if node not in tree.body:
                found.append(("L2", node.lineno, "not at the top"))
            if node.level or node.module not in defined:
                found.append(("L2", node.lineno, "not a module of the package's own"))
                continue
            for alias in node.names:
                if alias.name not in defined[node.module]:
                    found.append(("L16", node.lineno, f"{alias.name} is not defined in {node.module}"))
    return found


def faults_of_function(node):
    found = []
    args = node.args
    if args.vararg or args.kwarg or args.kwonlyargs or args.posonlyargs:
        found.append(("L4", node.lineno, "not plain parameters"))
    if any(not is_plain(one, ()) for one in args.defaults):
        found.append(("L4", node.lineno, "a default that is no plain value"))
    if isinstance(node, ast.Lambda):
        return found
    if node.decorator_list:
        found.append(("L4", node.lineno, "a decorator"))
    if node.returns or any(one.annotation for one in args.args):
        found.append(("L21", node.lineno, "an annotation"))
    if node.end_lineno - node.lineno + 1 > 40:
        found.append(("L10", node.lineno, "more than 40 lines"))
    return found


def faults_of_class(node):
    found = []
    if node.decorator_list or node.keywords or len(node.bases) > 1:
        found.append(("L5", node.lineno, "not a plain class"))
    for one in node.body:
        if not isinstance(one, (ast.FunctionDef, ast.Pass)):
            found.append(("L5", one.lineno, "not a method"))
        elif isinstance(one, ast.FunctionDef) and one.name.startswith("_") and one.name not in TWO_UNDERSCORES:
            found.append(("L5", one.lineno, one.name))
    return found


def faults_of_statement(node):
    found = []
    if not isinstance(node, STATEMENTS):
        found.append(("L6", node.lineno, node.__class__.__name__))
    if isinstance(node, ast.Expr) and not isinstance(node.value, ast.Call):
        found.append(("L6", node.lineno, "a value by itself"))
    if isinstance(node, (ast.For, ast.While)) and node.orelse:
        found.append(("L6", node.lineno, "else behind a loop"))
    if isinstance(node, ast.Assign) and (len(node.targets) > 1 or isinstance(node.targets[0], (ast.Tuple, ast.List))):
        found.append(("L6", node.lineno, "more than one target"))
    if isinstance(node, ast.Try):
        if node.finalbody:
            found.append(("L6", node.lineno, "finally"))
        for handler in node.handlers:
            named = ast.unparse(handler.type) if handler.type else ""
            if named in ("", "Exception", "TypeError", "BaseException"):
                found.append(("L19", handler.lineno, f"except {named}"))
    if isinstance(node, ast.Raise) and not isinstance(node.exc, ast.Call):
        found.append(("L19", node.lineno, "an error not made on the spot"))
    return found


def faults_of_operator(node):
    found = []
    if isinstance(node, (ast.BinOp, ast.AugAssign)):
        if isinstance(node.op, (ast.Div, ast.MatMult)):
            found.append(("L7", node.lineno, "/ or @"))
        if isinstance(node.op, ast.Pow):
            power = node.right if isinstance(node, ast.BinOp) else node.value
            if not isinstance(power, ast.Constant) or power.value not in range(65):
                found.append(("L27", node.lineno, "a power that is not written"))
    if isinstance(node, ast.Compare) and any(isinstance(op, (ast.Is, ast.IsNot)) for op in node.ops):
        sides = [node.left] + node.comparators
        if not any(isinstance(one, ast.Constant) and isinstance(one.value, (bool, NoneType)) for one in sides):
            found.append(("L20", node.lineno, "is"))
    return found


def faults_of_expression(node):
    found = []
    if not isinstance(node, EXPRESSIONS):
        found.append(("L7", node.lineno, node.__class__.__name__))
    if isinstance(node, ast.Constant):
        if isinstance(node.value, (float, complex, bytes)) or node.value is ...:
            found.append(("L7", node.lineno, repr(node.value)))
        if isinstance(node.value, str) and "%" in node.value:
            found.append(("L27", node.lineno, "the sign of hundredths in a text"))
    if isinstance(node, ast.ListComp):
        if len(node.generators) > 1 or len(node.generators[0].ifs) > 1 or node.generators[0].is_async:
            found.append(("L7", node.lineno, "more than one for or if"))
    if isinstance(node, ast.FormattedValue) and (not isinstance(node.value, ast.Name) or node.format_spec):
        found.append(("L7", node.lineno, "not a plain name in an f-string"))
    return found


def called_name(node):
    return node.func.id if isinstance(node, ast.Call) and isinstance(node.func, ast.Name) else None


def faults_of_call(node, parent):
    found = []
    name = called_name(node)
    if name in OWN_NAMES:
        for keyword in node.keywords:
            if keyword.arg not in KEYWORDS.get(name, ()):
                found.append(("L22", node.lineno, f"keyword {keyword.arg} at {name}"))
    lazy = name in LAZY or (isinstance(node.func, ast.Attribute) and node.func.attr in ("items", "keys", "values"))
    walked = (
        (isinstance(parent, (ast.For, ast.comprehension)) and parent.iter is node)
        or (called_name(parent) in WALKERS and parent.args[:1] == [node])
        or (isinstance(parent, ast.Call) and isinstance(parent.func, ast.Attribute) and parent.func.attr == "join")
    )
    if lazy and not walked:
        found.append(("L23", node.lineno, "not walked on the spot"))
    if name in ("set", "frozenset"):
        beside = isinstance(parent, (ast.Compare, ast.BinOp)) or called_name(parent) in ("sorted", "len")
        if not beside:
            found.append(("L24", node.lineno, "a set that is kept or walked"))
    return found


def faults_of_names(tree):
    found = []
    top = bound_at_top(tree)
    not_for_locals = PYTHON_NAMES | {
        name for node in tree.body if isinstance(node, (ast.ClassDef, ast.ImportFrom))
        for name in bound_at_top(ast.Module([node], []))
    }
    methods = METHODS | {"add", "discard"} | {
        one.name for node in tree.body if isinstance(node, ast.ClassDef)
        for one in node.body if isinstance(one, ast.FunctionDef)
    }
    for node in ast.walk(tree):
        if isinstance(node, ast.Name):
            if isinstance(node.ctx, ast.Load) and node.id in PYTHON_NAMES - OWN_NAMES and node.id not in top:
                found.append(("L8", node.lineno, node.id))
            if not isinstance(node.ctx, ast.Load) and node.id in not_for_locals:
                found.append(("L15", node.lineno, node.id))
            found.extend(faults_of_word(node.id, node.lineno, UNUSED_ANYWHERE | UNUSED_NAMES))
        elif isinstance(node, ast.arg):
            if node.arg in not_for_locals:
                found.append(("L15", node.lineno, node.arg))
            found.extend(faults_of_word(node.arg, node.lineno, UNUSED_ANYWHERE | UNUSED_NAMES))
        elif isinstance(node, (ast.FunctionDef, ast.ClassDef)):
            if node.name not in TWO_UNDERSCORES:
                found.extend(faults_of_word(node.name, node.lineno, UNUSED_ANYWHERE | UNUSED_NAMES))
        elif isinstance(node, ast.Attribute):
            if node.attr not in TWO_UNDERSCORES:
                found.extend(faults_of_word(node.attr, node.lineno, UNUSED_ANYWHERE))
        elif isinstance(node, ast.Call) and isinstance(node.func, ast.Attribute) and node.func.attr not in methods:
            found.append(("L25", node.lineno, node.func.attr))
    return found


def faults_of_word(word, line, unused):
    if word in unused:
        return [("L17", line, word)]
    if not re.fullmatch(r"[A-Za-z][A-Za-z0-9_]*", word) and word not in ("__all__", "__version__"):
        return [("L12", line, word)]
    return []


def faults_of_code(text, defined):
    tree = ast.parse(text)
    found = faults_of_text(text) + faults_of_top(tree) + faults_of_imports(tree, defined) + faults_of_names(tree)
    docstring = tree.body[0] if tree.body and is_docstring(tree.body[0]) else None
    for parent in ast.walk(tree):
        for node in ast.iter_child_nodes(parent):
            if node is docstring:
                continue
            if isinstance(node, ast.stmt):
                found.extend(faults_of_statement(node))
            if isinstance(node, ast.expr):
                found.extend(faults_of_expression(node))
            if isinstance(node, (ast.FunctionDef, ast.Lambda)):
                found.extend(faults_of_function(node))
            if isinstance(node, ast.ClassDef):
                found.extend(faults_of_class(node))
                if parent is not tree:
                    found.append(("L15", node.lineno, "a class not at the top"))
            if isinstance(node, ast.Call):
                found.extend(faults_of_call(node, parent))
            found.extend(faults_of_operator(node))
    return found


def circle_among(draws):
    """draws: for each module, those that it draws from. A module that draws from itself in steps, or None."""
    for start in sorted(draws):
        seen = set()
        ahead = list(draws[start])
        while ahead:
            one = ahead.pop()
            if one == start:
                return start
            if one not in seen:
                seen.add(one)
                ahead.extend(draws.get(one, ()))
    return None
