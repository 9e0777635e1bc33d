"""What LANGUAGE.md asks of the package, as far as a walk over the source can tell.

`faults(path, source, package)` lists (rule, line, what) for one file; package is
what `package_of` gathered of all its files.
"""

import ast
import builtins
import re

NODES = (
    ast.Module, ast.FunctionDef, ast.ClassDef, ast.arguments, ast.arg, ast.Lambda, ast.keyword,
    ast.Assign, ast.AugAssign, ast.If, ast.While, ast.For, ast.Return, ast.Break, ast.Continue, ast.Pass,
    ast.Raise, ast.Try, ast.ExceptHandler, ast.Expr, ast.ImportFrom, ast.alias,
    ast.Constant, ast.List, ast.Tuple, ast.Dict, ast.Set, ast.BinOp, ast.UnaryOp, ast.BoolOp, ast.Compare,
    ast.IfExp, ast.Call, ast.Attribute, ast.Subscript, ast.Slice, ast.Name, ast.ListComp, ast.comprehension,
    ast.JoinedStr, ast.FormattedValue, ast.expr_context, ast.boolop, ast.operator, ast.unaryop, ast.cmpop,
)
OWN_NAMES = set(
    "len range enumerate zip min max sum abs sorted reversed int str bool list tuple dict set frozenset isinstance "
    "ord repr any all divmod Exception ValueError TypeError KeyError IndexError LookupError ZeroDivisionError "
    "ArithmeticError OverflowError RuntimeError NotImplementedError AttributeError StopIteration".split()
)
METHODS = set(
    "append clear copy count endswith extend find get index insert isalnum isalpha isdigit islower isspace isupper "
    "items join keys ljust lower lstrip partition pop remove replace reverse rfind rjust rpartition rsplit rstrip "
    "setdefault split splitlines startswith strip update upper values zfill bit_length".split()
)
TWO_UNDERSCORES = {"__init__", "__eq__", "__repr__", "__str__", "__len__"}
NOT_USED = {"register", "mro", "elements", "open", "input", "version_info", "with_traceback", "add_note", "format",
            "format_map", "args", "encode", "sort"}
WORDS = re.compile(
    r"\b(type|typing|typing_extensions|enum|Enum|IntEnum|StrEnum|Flag|IntFlag|Generic|Protocol|ABC|ABCMeta|"
    r"namedtuple|NamedTuple|TypedDict|TYPE_CHECKING|abstractmethod)\b|dataclass|overload|contextmanager"
)
PLAIN = re.compile(r"[A-Za-z][A-Za-z0-9_]*\Z")
WALKED = {"zip", "enumerate", "reversed", "range"}


def package_of(sources):
    """The methods and values of all classes, and which file draws from which."""
    methods, values, draws = set(), set(), {}
    for path, source in sources.items():
        tree = ast.parse(source)
        draws[path] = [node.module for node in ast.walk(tree) if isinstance(node, ast.ImportFrom)]
        for node in ast.walk(tree):
            if isinstance(node, ast.ClassDef):
                methods |= {part.name for part in node.body if isinstance(part, ast.FunctionDef)}
            if isinstance(node, ast.Attribute) and isinstance(node.ctx, ast.Store):
                values.add(node.attr)
    return {"methods": methods, "values": values, "draws": draws}


def faults(path, source, package):
    tree = ast.parse(source)
    found = list(faults_of_signs(source)) + list(faults_of_top(tree))
    imported = {alias.name for node in ast.walk(tree) if isinstance(node, ast.ImportFrom) for alias in node.names}
    classes = {node.name for node in ast.walk(tree) if isinstance(node, ast.ClassDef)}
    for node in ast.walk(tree):
        line = getattr(node, "lineno", 0)
        for rule, what in faults_of_node(node, package, imported | classes):
            found.append((rule, line, what))
    return found


def faults_of_signs(source):
    lines = source.split("\n")
    if len(lines) > 401:
        yield ("L10", len(lines), "a file of more than 400 lines")
    for number, line in enumerate(lines, start=1):
        if len(line) > 120:
            yield ("L10", number, "a line of more than 120 signs")
        if any(not " " <= sign <= "~" for sign in line):
            yield ("L14", number, "a sign that is not from the blank to ~")
        if WORDS.search(line):
            yield ("L17", number, "a word that stands nowhere")


def faults_of_top(tree):
    bound = []
    for place, node in enumerate(tree.body):
        docstring = place == 0 and isinstance(node, ast.Expr) and isinstance(node.value, ast.Constant)
        if not docstring and not isinstance(node, (ast.ImportFrom, ast.FunctionDef, ast.ClassDef, ast.Assign)):
            yield ("L3", node.lineno, "something is done at the top")
        if isinstance(node, ast.Assign):
            bound += [target.id for target in node.targets if isinstance(target, ast.Name)]
            plain = (ast.Constant, ast.List, ast.Tuple, ast.Dict, ast.Name, ast.expr_context, ast.UnaryOp, ast.USub)
            if any(not isinstance(part, plain) for part in ast.walk(node.value)):
                yield ("L3", node.lineno, "no plain value")
        if isinstance(node, (ast.FunctionDef, ast.ClassDef)):
            bound.append(node.name)
        if isinstance(node, ast.ImportFrom):
            bound += [alias.name for alias in node.names]
    for name in bound:
        if bound.count(name) > 1:
            yield ("L15", 0, f"{name} is bound twice")


def faults_of_node(node, package, top_names):
    if not isinstance(node, NODES):
        yield ("L6", f"{node.__class__.__name__} is not of this language")
    for check in (fault_of_names, fault_of_defs, fault_of_statements, fault_of_values, fault_of_calls):
        yield from check(node, package, top_names)


def fault_of_names(node, package, top_names):
    if isinstance(node, ast.Name):
        if not PLAIN.match(node.id):
            yield ("L12", f"{node.id} is no plain name")
        if hasattr(builtins, node.id) and node.id not in OWN_NAMES:
            yield ("L8", f"{node.id} is not used")
        if isinstance(node.ctx, ast.Store) and (hasattr(builtins, node.id) or node.id in top_names):
            yield ("L15", f"{node.id} is another thing's name")
    if isinstance(node, ast.arg) and (
        not PLAIN.match(node.arg) or hasattr(builtins, node.arg) or node.arg in top_names or node.annotation
    ):
        yield ("L15", f"{node.arg} is no parameter's name, or is annotated")
    if isinstance(node, ast.Attribute):
        if node.attr in NOT_USED or not (PLAIN.match(node.attr) or node.attr == "__init__"):
            yield ("L17", f"{node.attr} is not used")
        if isinstance(node.ctx, ast.Store) and node.attr in package["methods"]:
            yield ("L18", f"{node.attr} is a method and a value")
    if isinstance(node, (ast.FunctionDef, ast.ClassDef)):
        if not PLAIN.match(node.name) and node.name not in TWO_UNDERSCORES:
            yield ("L12", f"{node.name} is no plain name")


def fault_of_defs(node, package, top_names):
    if isinstance(node, ast.FunctionDef):
        if node.end_lineno - node.lineno + 1 > 40:
            yield ("L10", f"{node.name} has more than 40 lines")
        if node.decorator_list or node.returns:
            yield ("L4", f"{node.name} has a decorator or an annotation")
    if isinstance(node, (ast.FunctionDef, ast.Lambda)):
        if node.args.vararg or node.args.kwarg or node.args.kwonlyargs or node.args.posonlyargs:
            yield ("L4", "a parameter that is not plain")
        defaults = node.args.defaults
        if any(not isinstance(part, ast.Constant) for part in defaults):
            yield ("L4", "a default that is not plain")
    if isinstance(node, ast.ClassDef):
        if node.decorator_list or node.keywords or len(node.bases) > 1:
            yield ("L5", f"{node.name} is no plain class")
        names = [part.name for part in node.body if isinstance(part, ast.FunctionDef)]
        if len(set(names)) < len(names):
            yield ("L18", f"{node.name} has a method twice")
        if any(not isinstance(part, (ast.FunctionDef, ast.Pass)) for part in node.body):
            yield ("L5", f"{node.name} has more than methods")


def fault_of_statements(node, package, top_names):
    if isinstance(node, ast.Assign) and len(node.targets) != 1:
        yield ("L6", "more than one target")
    if isinstance(node, (ast.While, ast.For)) and node.orelse:
        yield ("L6", "an else behind a loop")
    if isinstance(node, ast.Try) and node.finalbody:
        yield ("L6", "a finally")
    if isinstance(node, ast.Expr) and not isinstance(node.value, ast.Call):
        if not (node.lineno == 1 and isinstance(node.value, ast.Constant)):
            yield ("L6", "a value by itself")
    if isinstance(node, ast.Raise) and not isinstance(node.exc, ast.Call):
        yield ("L19", "an error that is not made on the spot")
    if isinstance(node, ast.ExceptHandler):
        names = [part.id for part in ast.walk(node.type) if isinstance(part, ast.Name)] if node.type else []
        if not names or "Exception" in names or "TypeError" in names:
            yield ("L19", "an except of no named class, or of Exception or TypeError")
    if isinstance(node, ast.ImportFrom):
        if node.level or not (node.module or "").startswith("coverroll."):
            yield ("L2", "an import from beyond the package")
        if any(alias.name == "*" or alias.asname for alias in node.names):
            yield ("L2", "an import of all, or under another name")


def fault_of_values(node, package, top_names):
    if isinstance(node, ast.Constant) and isinstance(node.value, (float, complex, bytes)):
        yield ("L7", "a value that is not of this language")
    if isinstance(node, ast.Constant) and isinstance(node.value, str) and "%" in node.value:
        yield ("L27", "a sign of percent within a text")
    if isinstance(node, (ast.Div, ast.MatMult)):
        yield ("L7", "an operator that is not of this language")
    if isinstance(node, ast.BinOp) and isinstance(node.op, ast.Pow) and not isinstance(node.right, ast.Constant):
        yield ("L27", "an exponent that is not written")
    if isinstance(node, ast.ListComp) and (len(node.generators) > 1 or len(node.generators[0].ifs) > 1):
        yield ("L7", "a comprehension of more than one for or if")
    if isinstance(node, ast.FormattedValue):
        if not isinstance(node.value, ast.Name) or node.format_spec or node.conversion not in (-1, ord("r")):
            yield ("L7", "more than a plain name in braces")
    if isinstance(node, ast.Compare) and any(isinstance(op, (ast.Is, ast.IsNot)) for op in node.ops):
        if not all(isinstance(part, ast.Constant) and part.value in (None, True, False) for part in node.comparators):
            yield ("L20", "an is beside another thing than None, True and False")


def fault_of_calls(node, package, top_names):
    if isinstance(node, ast.Assign) and isinstance(node.value, ast.Call):
        function = node.value.func
        walked = isinstance(function, ast.Name) and function.id in WALKED
        if walked or isinstance(function, ast.Attribute) and function.attr in ("items", "keys", "values"):
            yield ("L23", "what is walked on the spot is kept")
        if isinstance(function, ast.Name) and function.id in ("set", "frozenset"):
            yield ("L24", "a set is kept")
    if isinstance(node, ast.Call) and isinstance(node.func, ast.Attribute):
        name = node.func.attr
        if name not in METHODS and name not in package["methods"] and name != "__init__":
            yield ("L25", f"{name} is no method of this language")
    if isinstance(node, ast.Call) and any(isinstance(part, ast.Starred) for part in node.args):
        yield ("L7", "a star")


def circles(draws):
    """The files that draw from themselves, in whatever many steps."""
    found = []
    for start in draws:
        seen, ahead = set(), list(draws[start])
        while ahead:
            module = ahead.pop()
            if module not in seen:
                seen.add(module)
                ahead.extend(draws.get(module, []))
        if start in seen:
            found.append(start)
    return found
