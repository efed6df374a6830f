"""Looks for what the package's language (LANGUAGE.md, L1 to L28) rules out.

It finds what can be seen in a file's tree alone. Rules that hang on what a value is at run time
(L11, most of L18, L19, L23, L24, L26) are only partly seen, or not at all.
"""

import ast
import builtins
import re

PYTHONS_OWN = set(dir(builtins))
ERRORS = set("""Exception ValueError TypeError KeyError IndexError LookupError ZeroDivisionError ArithmeticError
    OverflowError RuntimeError NotImplementedError AttributeError StopIteration""".split())
FREE = ERRORS | set("""len range enumerate zip min max sum abs sorted reversed int str bool list tuple dict set
    frozenset isinstance ord repr any all divmod""".split())
METHODS = set("""append clear copy count endswith extend find get index insert isalnum isalpha isdigit islower isspace
    isupper items join keys ljust lower lstrip partition pop remove replace reverse rfind rjust rpartition rsplit
    rstrip setdefault split splitlines startswith strip update upper values zfill bit_length""".split())
UNUSED_NAMES = set("""register mro elements open input version_info with_traceback add_note attrgetter breakpoint
    builtins compile copyright credits delattr dir eval exec exit gc getattr globals hasattr help id importlib license
    locals methodcaller os quit setattr super type vars sys format format_map""".split())
UNUSED_ATTRIBUTES = set("""register mro elements open input version_info with_traceback add_note format
    format_map""".split())
UNUSED_WORDS = re.compile(
    r"\b(type|typing|typing_extensions|enum|Enum|IntEnum|StrEnum|Flag|IntFlag|Generic|Protocol|ABC|ABCMeta|namedtuple"
    r"|NamedTuple|TypedDict|TYPE_CHECKING|abstractmethod)\b|dataclass|overload|contextmanager")
FILE_NAMES = re.compile(r"(__init__|__main__|[a-z][a-z0-9_]*)\.py")
OTHER_FILES = set("test tests testing site conftest sitecustomize usercustomize".split())
TWO_UNDERSCORES = set("__init__ __eq__ __repr__ __str__ __len__ __all__ __version__ __name__".split())
PLAIN_NAME = re.compile(r"[A-Za-z][A-Za-z0-9_]*")
WALKED = set("range enumerate zip reversed".split())
WALKERS = set("list tuple dict sorted sum any all enumerate zip min max".split())
KEYWORDS = {"sorted": {"key", "reverse"}, "min": {"key", "default"}, "max": {"key", "default"},
            "sum": {"start"}, "enumerate": {"start"}, "zip": {"strict"}}
UNUSED_VALUES = set("""items keys values pop update append clear extend insert remove reverse setdefault sort args
    encode format""".split())
STATEMENTS = (ast.Assign, ast.AugAssign, ast.If, ast.While, ast.For, ast.Return, ast.Break, ast.Continue, ast.Pass,
              ast.Raise, ast.Try, ast.Expr, ast.FunctionDef, ast.ClassDef, ast.ImportFrom)
EXPRESSIONS = (ast.Constant, ast.List, ast.Tuple, ast.Dict, ast.Set, ast.BinOp, ast.UnaryOp, ast.BoolOp, ast.Compare,
               ast.IfExp, ast.Call, ast.Attribute, ast.Subscript, ast.Slice, ast.ListComp, ast.JoinedStr,
               ast.FormattedValue, ast.Name, ast.Lambda)


def faults(source, methods=()):
    """The faults of one file's text, as tuples (rule, line); methods are those that the package defines itself."""
    tree = ast.parse(source)
    for node in ast.walk(tree):
        for child in ast.iter_child_nodes(node):
            child.above = node
    found = lines_faults(source) + top_faults(tree)
    for node in ast.walk(tree):
        found += [(rule, getattr(node, "lineno", 0)) for rule in node_faults(node, methods)]
    return sorted(set(found))


def lines_faults(source):
    found = []
    lines = source.split("\n")
    if len(lines) > 401:
        found.append(("L10", 401))
    for number, line in enumerate(lines, start=1):
        if len(line) > 120 or "\t" in line:
            found.append(("L10", number))
        if any(not " " <= sign <= "~" for sign in line):
            found.append(("L14", number))
        if UNUSED_WORDS.search(line):
            found.append(("L17", number))
    return found


def is_plain(value, functions):
    if isinstance(value, (ast.List, ast.Tuple)):
        return all(is_plain(part, functions) for part in value.elts)
    if isinstance(value, ast.Dict):
        return all(part is not None and is_plain(part, functions) for part in value.keys + value.values)
    if isinstance(value, ast.UnaryOp):
        return isinstance(value.operand, ast.Constant)
    return isinstance(value, ast.Constant) or isinstance(value, ast.Name) and value.id in functions


def top_faults(tree):
    found = []
    bound = []
    functions = set()
    for place, node in enumerate(tree.body):
        if isinstance(node, ast.ImportFrom):
            bound += [name.asname or name.name for name in node.names]
        elif isinstance(node, (ast.FunctionDef, ast.ClassDef)):
            bound.append(node.name)
            functions.add(node.name)
        elif isinstance(node, ast.Assign) and isinstance(node.targets[0], ast.Name):
            bound.append(node.targets[0].id)
            if not is_plain(node.value, functions):
                found.append(("L3", node.lineno))
        elif not (place == 0 and ast.get_docstring(tree) is not None):
            found.append(("L3", node.lineno))
    found += [("L15", 0) for name in set(bound) if bound.count(name) > 1]
    taken = set()
    for node in tree.body:
        if isinstance(node, ast.ImportFrom):
            taken.update(name.asname or name.name for name in node.names)
        elif isinstance(node, ast.ClassDef):
            taken.add(node.name)
    for node in ast.walk(tree):
        name = local_name(node)
        if name is not None and (name in taken or name in PYTHONS_OWN):
            found.append(("L15", node.lineno))
    return found


def local_name(node):
    if isinstance(node, ast.arg):
        return node.arg
    if isinstance(node, ast.Name) and isinstance(node.ctx, ast.Store):
        return node.id
    return None


def node_faults(node, methods):
    """The rules that one node of the tree breaks."""
    found = []
    if isinstance(node, ast.stmt):
        found += statement_faults(node)
    elif isinstance(node, ast.expr):
        found += expression_faults(node, methods)
    elif isinstance(node, ast.ExceptHandler):
        if node.type is None or any(name in ast.unparse(node.type).split() for name in ("Exception", "TypeError")):
            found.append("L19")
    elif isinstance(node, ast.arg) and node.annotation is not None:
        found.append("L21")
    for name in names_of(node):
        if not PLAIN_NAME.fullmatch(name) and name not in TWO_UNDERSCORES:
            found.append("L12")
    return found


def names_of(node):
    if isinstance(node, (ast.FunctionDef, ast.ClassDef)):
        return [node.name]
    if isinstance(node, ast.Name):
        return [node.id]
    if isinstance(node, ast.arg):
        return [node.arg]
    if isinstance(node, ast.Attribute):
        return [node.attr]
    return []


def statement_faults(node):
    found = []
    if isinstance(node, ast.Import):
        return ["L2"]
    if not isinstance(node, STATEMENTS):
        return ["L6"]
    if isinstance(node, ast.ImportFrom):
        if node.level or not (node.module or "").startswith("asitruns.") or node.names[0].name == "*":
            found.append("L2")
        if not isinstance(node.above, ast.Module):
            found.append("L2")
    if isinstance(node, ast.FunctionDef):
        given = node.args
        if given.vararg or given.kwarg or given.kwonlyargs or given.posonlyargs or node.decorator_list:
            found.append("L4")
        if node.returns is not None:
            found.append("L21")
        if node.end_lineno - node.lineno + 1 > 40:
            found.append("L10")
    if isinstance(node, ast.ClassDef):
        found += class_faults(node)
    if isinstance(node, ast.Assign) and len(node.targets) != 1:
        found.append("L6")
    if isinstance(node, (ast.While, ast.For)) and node.orelse or isinstance(node, ast.Try) and node.finalbody:
        found.append("L6")
    if isinstance(node, ast.Expr) and not isinstance(node.value, ast.Call) and not is_docstring(node):
        found.append("L6")
    return found


def is_docstring(node):
    return (isinstance(node.value, ast.Constant) and isinstance(node.value.value, str)
            and isinstance(node.above, (ast.Module, ast.ClassDef, ast.FunctionDef)) and node.above.body[0] == node)


def class_faults(node):
    found = []
    if len(node.bases) > 1 or node.keywords or node.decorator_list:
        found.append("L5")
    if not isinstance(node.above, ast.Module):
        found.append("L15")
    for part in node.body:
        if not isinstance(part, (ast.FunctionDef, ast.Pass)) and not (isinstance(part, ast.Expr) and is_docstring(part)):
            found.append("L5")
    names = [part.name for part in node.body if isinstance(part, ast.FunctionDef)]
    if len(names) != len(set(names)):
        found.append("L18")
    return found


def expression_faults(node, methods):
    found = []
    if not isinstance(node, EXPRESSIONS):
        return ["L7"]
    if isinstance(node, ast.Constant):
        if isinstance(node.value, (float, complex, bytes)) or node.value is Ellipsis:
            found.append("L7")
        if isinstance(node.value, str) and "%" in node.value:
            found.append("L27")
    if isinstance(node, ast.BinOp):
        if isinstance(node.op, (ast.Div, ast.MatMult)):
            found.append("L7")
        if isinstance(node.op, ast.Pow) and not isinstance(node.right, ast.Constant):
            found.append("L27")
    if isinstance(node, ast.ListComp) and (len(node.generators) != 1 or len(node.generators[0].ifs) > 1):
        found.append("L7")
    if isinstance(node, ast.Dict) and None in node.keys:
        found.append("L7")
    if isinstance(node, ast.FormattedValue):
        if not isinstance(node.value, ast.Name) or node.format_spec or node.conversion not in (-1, ord("r")):
            found.append("L7")
    if isinstance(node, ast.Name):
        found += name_faults(node)
    if isinstance(node, ast.Compare) and any(isinstance(op, (ast.Is, ast.IsNot)) for op in node.ops):
        sides = [node.left] + node.comparators
        if not any(isinstance(side, ast.Constant) and side.value in (None, True, False) for side in sides):
            found.append("L20")
    if isinstance(node, ast.Attribute) and node.attr in UNUSED_ATTRIBUTES:
        found.append("L17")
    if isinstance(node, ast.Attribute) and isinstance(node.ctx, ast.Store):
        if node.attr in UNUSED_VALUES:
            found.append("L26")
        if node.attr in methods:
            found.append("L18")
    if isinstance(node, ast.Call):
        found += call_faults(node, methods)
    return found


def name_faults(node):
    found = []
    if node.id in UNUSED_NAMES:
        found.append("L17")
    elif node.id in PYTHONS_OWN and node.id not in FREE:
        found.append("L8")
    elif node.id in FREE - ERRORS and not is_called(node) and not stands_as_kind(node):
        found.append("L22")
    return found


def is_called(node):
    return isinstance(node.above, ast.Call) and node.above.func == node


def stands_as_kind(node):
    """Whether a name of Python's own stands as a key, or as a kind by isinstance."""
    if isinstance(node.above, ast.keyword):
        return node.above.arg == "key"
    call = node.above.above if isinstance(node.above, ast.Tuple) else node.above
    return isinstance(call, ast.Call) and isinstance(call.func, ast.Name) and call.func.id == "isinstance"


def call_faults(node, methods):
    found = []
    named = [keyword.arg for keyword in node.keywords]
    if isinstance(node.func, ast.Name) and node.func.id in PYTHONS_OWN:
        if not set(named) <= KEYWORDS.get(node.func.id, set()):
            found.append("L22")
        if node.func.id in WALKED and not is_walked(node):
            found.append("L23")
    if isinstance(node.func, ast.Attribute):
        own = node.func.attr in methods or node.func.attr == "__init__"
        if node.func.attr not in METHODS and not own:
            found.append("L25")
        if named and not own:
            found.append("L22")
        if node.func.attr in ("items", "keys", "values") and not is_walked(node):
            found.append("L23")
    return found


def is_walked(node):
    above = node.above
    if isinstance(above, (ast.For, ast.comprehension)):
        return above.iter == node
    if not isinstance(above, ast.Call):
        return False
    if isinstance(above.func, ast.Attribute):
        return above.func.attr == "join" and isinstance(above.func.value, ast.Constant)
    return above.func.id in WALKERS
