"""Looks through a file of the package for what ../shared/LANGUAGE.md bars, as far as its text alone shows it.

told_against(name, text) gives a list of (rule, line). It knows the rules that the package comes near to:
what it doesn't know is still required of it.
"""

import ast
import builtins
import re

PACKAGE = "askedways"
BUILTINS = set("""len range enumerate zip min max sum abs sorted reversed int str bool bytes list tuple dict set
frozenset isinstance ord repr any all divmod Exception ValueError TypeError KeyError IndexError LookupError
ZeroDivisionError ArithmeticError OverflowError RuntimeError NotImplementedError AttributeError StopIteration
NotImplemented super property staticmethod classmethod""".split())
ALL_BUILTINS = set(dir(builtins))
METHODS = set("""append clear copy count endswith extend find get index insert isalnum isalpha isdigit islower isspace
isupper items join keys ljust lower lstrip partition pop remove replace reverse rfind rjust rpartition rsplit rstrip
setdefault split splitlines startswith strip update upper values zfill bit_length sort add discard title capitalize
swapcase casefold center expandtabs removeprefix removesuffix rindex isascii isdecimal isnumeric istitle isidentifier
isprintable encode decode hex fromhex to_bytes from_bytes translate""".split())
DUNDERS = set("""__init__ __eq__ __repr__ __str__ __len__ __enter__ __exit__ __call__ __iter__ __lt__ __le__ __gt__ __ge__
__ne__ __contains__ __bool__""".split())
BARRED_NAMES = set("""register mro elements open input version_info with_traceback add_note attrgetter breakpoint builtins
compile copyright credits delattr dir eval exec exit gc getattr globals hasattr help id importlib license locals
methodcaller os quit setattr type vars sys format format_map""".split())
BARRED_WORDS = re.compile(
    r"\b(type|typing|typing_extensions|enum|Enum|IntEnum|StrEnum|Flag|IntFlag|Generic|Protocol|ABC|ABCMeta|namedtuple"
    r"|NamedTuple|TypedDict|TYPE_CHECKING|abstractmethod)\b|dataclass|overload|contextmanager")
BARRED_NODES = {
    "L2": (ast.Import,),
    "L6": (ast.Global, ast.AsyncFunctionDef, ast.AsyncFor, ast.AsyncWith, ast.Await),
    "L7": (ast.Div, ast.MatMult),
}
PLAIN = (ast.Constant, ast.List, ast.Tuple, ast.Dict, ast.UnaryOp, ast.BinOp, ast.Name, ast.Load, ast.operator,
         ast.unaryop)
QUANTIFIERS = ("any", "all", "min", "max", "sum", "sorted")
AT_ONCE = ("zip", "enumerate", "reversed", "range", "items", "keys", "values")


def told_against(name, text):
    tree = ast.parse(text)
    told = on_lines(name, text)
    for look in (on_imports, on_module_level, on_functions, on_classes, on_nodes, on_names, on_calls, on_doubles,
                 on_strings):
        told += look(tree)
    return told


def on_lines(name, text):
    told = []
    rows = text.split("\n")
    if not re.fullmatch(r"[a-z0-9_]+\.py", name):
        told.append(("L14", 0))
    if len(rows) > 401:
        told.append(("L10", 401))
    for at, row in enumerate(rows, start=1):
        if len(row) > 120 or "\t" in row:
            told.append(("L10", at))
        if re.search(r"[^ -~]", row):
            told.append(("L14", at))
        if BARRED_WORDS.search(row):
            told.append(("L17", at))
    return told


def on_imports(tree):
    told = []
    below = False
    for node in tree.body:
        if isinstance(node, ast.ImportFrom):
            if below or node.level or not node.module.startswith(PACKAGE + "."):
                told.append(("L2", node.lineno))
            if any(alias.name == "*" for alias in node.names):
                told.append(("L2", node.lineno))
        elif not is_docstring(node):
            below = True
    inner = [node for node in ast.walk(tree) if isinstance(node, ast.ImportFrom) and node not in tree.body]
    return told + [("L2", node.lineno) for node in inner]


def is_docstring(node):
    return isinstance(node, ast.Expr) and isinstance(node.value, ast.Constant) and isinstance(node.value.value, str)


def on_module_level(tree):
    told = []
    bound = []
    for at, node in enumerate(tree.body):
        if isinstance(node, ast.Assign):
            if any(not isinstance(part, PLAIN) for part in ast.walk(node.value)) or len(node.targets) != 1:
                told.append(("L3", node.lineno))
            bound += [part.id for part in ast.walk(node.targets[0]) if isinstance(part, ast.Name)]
        elif isinstance(node, ast.ImportFrom):
            bound += [alias.asname or alias.name for alias in node.names]
        elif isinstance(node, (ast.FunctionDef, ast.ClassDef)):
            bound.append(node.name)
        elif not (is_docstring(node) and at == 0):
            told.append(("L3", node.lineno))
    return told + [("L15", 0) for name in set(bound) if bound.count(name) > 1]


def on_functions(tree):
    told = []
    taken = {alias.asname or alias.name for node in tree.body if isinstance(node, ast.ImportFrom) for alias in node.names}
    taken |= {node.name for node in tree.body if isinstance(node, ast.ClassDef)}
    for node in ast.walk(tree):
        if not isinstance(node, ast.FunctionDef):
            continue
        if node.end_lineno - node.lineno + 1 > 40:
            told.append(("L10", node.lineno))
        if node.args.posonlyargs or node.decorator_list:
            told.append(("L4", node.lineno))
        for default in node.args.defaults + [part for part in node.args.kw_defaults if part]:
            if not isinstance(default, (ast.Constant, ast.Tuple, ast.Name, ast.BinOp, ast.UnaryOp)):
                told.append(("L4", default.lineno))
        local = {part.id for part in ast.walk(node) if isinstance(part, ast.Name) and isinstance(part.ctx, ast.Store)}
        local |= {part.arg for part in ast.walk(node) if isinstance(part, ast.arg)}
        if local & (taken | ALL_BUILTINS):
            told.append(("L15", node.lineno))
    return told


def on_classes(tree):
    told = []
    for node in ast.walk(tree):
        if not isinstance(node, ast.ClassDef):
            continue
        if node.decorator_list or node.keywords or node not in tree.body:
            told.append(("L5", node.lineno))
        names = [part.name for part in node.body if isinstance(part, ast.FunctionDef)]
        if len(names) != len(set(names)):
            told.append(("L18", node.lineno))
        for part in node.body:
            if isinstance(part, ast.FunctionDef) and part.name.startswith("__") and part.name not in DUNDERS:
                told.append(("L5", part.lineno))
            if not isinstance(part, (ast.FunctionDef, ast.Assign, ast.Pass)) and not is_docstring(part):
                told.append(("L5", part.lineno))
    return told


def on_nodes(tree):
    told = []
    for node in ast.walk(tree):
        for rule, barred in BARRED_NODES.items():
            if isinstance(node, barred):
                told.append((rule, getattr(node, "lineno", 0)))
        if isinstance(node, ast.Constant) and isinstance(node.value, (float, complex)):
            told.append(("L7", node.lineno))
        if isinstance(node, ast.Compare):
            for sign, side in zip(node.ops, node.comparators):
                if isinstance(sign, (ast.Is, ast.IsNot)) and not is_named_constant(side):
                    told.append(("L20", node.lineno))
        if isinstance(node, ast.Set) and any(isinstance(part, ast.Starred) for part in node.elts):
            told.append(("L7", node.lineno))
        if isinstance(node, ast.ExceptHandler) and not (node.type and is_own_handler(node.type)):
            told.append(("L19", node.lineno))
        if isinstance(node, ast.Raise) and node.exc and not isinstance(node.exc, ast.Call):
            told.append(("L19", node.lineno))
    return told


def is_named_constant(node):
    return isinstance(node, ast.Constant) and (node.value is None or isinstance(node.value, bool))


def is_own_handler(node):
    names = [part.id for part in ast.walk(node) if isinstance(part, ast.Name)]
    return bool(names) and not {"Exception", "TypeError"} & set(names)


def on_names(tree):
    told = []
    for node in ast.walk(tree):
        if isinstance(node, ast.Name):
            if isinstance(node.ctx, ast.Load) and node.id in ALL_BUILTINS and node.id not in BUILTINS:
                told.append(("L8", node.lineno))
            told += on_name(node.id, node.lineno)
        elif isinstance(node, (ast.FunctionDef, ast.ClassDef)):
            if node.name not in DUNDERS:
                told += on_name(node.name, node.lineno)
        elif isinstance(node, ast.arg):
            told += on_name(node.arg, node.lineno)
        elif isinstance(node, ast.Attribute) and node.attr != "__init__":
            told += on_name(node.attr, node.lineno)
    return told


def on_name(name, line):
    told = [("L12", line)] if name.startswith("_") or not name.isascii() else []
    return told + ([("L17", line)] if name in BARRED_NAMES else [])


def on_calls(tree):
    told = []
    stored = [node for node in ast.walk(tree) if isinstance(node, ast.Attribute) and isinstance(node.ctx, ast.Load)]
    called = [node.func for node in ast.walk(tree) if isinstance(node, ast.Call)]
    for node in ast.walk(tree):
        if not isinstance(node, ast.Call):
            continue
        if isinstance(node.func, ast.Name) and node.func.id in QUANTIFIERS:
            # Fields and houses are compared by ==: there these take a list.
            if any(isinstance(part, ast.GeneratorExp) for part in node.args):
                told.append(("L7", node.lineno))
        if isinstance(node.func, (ast.Subscript, ast.Constant)):
            told.append(("L3", node.lineno))
        if isinstance(node.func, ast.Attribute) and node.func.attr == "sort":
            told.append(("L25", node.lineno))
    for node in ast.walk(tree):
        if isinstance(node, (ast.Assign, ast.Return)) and called_name(node.value) in AT_ONCE:
            told.append(("L23", node.lineno))
    told += [("L25", node.lineno) for node in stored if node.attr in METHODS and node not in called]
    return told


def called_name(node):
    """The name of the function or method that is called here, or None."""
    if not isinstance(node, ast.Call):
        return None
    return getattr(node.func, "id", getattr(node.func, "attr", None))


def on_doubles(tree):
    """On methods that are asked by signs: they tell, and change nothing."""
    told = []
    for node in ast.walk(tree):
        if isinstance(node, ast.FunctionDef) and node.name in ("__eq__", "__len__"):
            changing = (ast.Assign, ast.AugAssign, ast.AnnAssign, ast.Delete)
            if any(isinstance(part, changing) for part in ast.walk(node)) or not isinstance(node.body[-1], ast.Return):
                told.append(("L28", node.lineno))
            for part in ast.walk(node):
                if node.name == "__len__" and isinstance(part, ast.Return) and called_name(part.value) != "len":
                    told.append(("L28", part.lineno))
    return told


def names_in(tree):
    """(methods, attributes that are assigned, attributes that are read) of a file's classes and functions."""
    methods, assigned, read = set(), set(), set()
    for node in ast.walk(tree):
        if isinstance(node, ast.ClassDef):
            methods |= {part.name for part in node.body if isinstance(part, ast.FunctionDef)}
        if isinstance(node, ast.Attribute):
            (assigned if isinstance(node.ctx, ast.Store) else read).add(node.attr)
    return methods, assigned, read


def on_strings(tree):
    told = []
    for node in ast.walk(tree):
        if isinstance(node, ast.Constant) and isinstance(node.value, str):
            if "%" in node.value or node.value.endswith(("._", ".__")):
                told.append(("L27", node.lineno))
            if re.search(r"[^ -~\n\t]", node.value):
                told.append(("L14", node.lineno))
    return told
