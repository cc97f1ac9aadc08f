"""Looks for code of the package that lies outside the written rules of the language (L1 to L28).

It sees what can be seen line by line and node by node; rules that ask for more (such as what a loop
changes, or who keeps a list) are left to the reader.
"""

import ast
import builtins
import io
import re
import tokenize

PACKAGE = "beamtable"

OWN_NAMES = set(
    "len range enumerate zip min max sum abs sorted reversed int str bool list tuple dict set frozenset isinstance"
    " ord repr any all divmod Exception ValueError TypeError KeyError IndexError LookupError ZeroDivisionError"
    " ArithmeticError OverflowError RuntimeError NotImplementedError AttributeError StopIteration".split()
)
METHODS = set(
    "append clear copy count endswith extend find get index insert isalnum isalpha isdigit islower isspace isupper"
    " items join keys ljust lower lstrip partition pop remove replace reverse rfind rjust rpartition rsplit rstrip"
    " setdefault split splitlines startswith strip update upper values zfill bit_length".split()
)
DUNDER_METHODS = set("__init__ __eq__ __repr__ __str__ __len__".split())
NEVER = set("register mro elements open input version_info with_traceback add_note format format_map".split())
WORDS = re.compile(
    r"\b(type|typing|typing_extensions|enum|Enum|IntEnum|StrEnum|Flag|IntFlag|Generic|Protocol|ABC|ABCMeta"
    r"|namedtuple|NamedTuple|TypedDict|TYPE_CHECKING|abstractmethod)\b|dataclass|overload|contextmanager"
)
NODES = tuple(
    getattr(ast, name)
    for name in (
        "Module FunctionDef ClassDef Return Assign AugAssign For While If Raise Try ImportFrom Expr Pass Break"
        " Continue BoolOp BinOp UnaryOp Lambda IfExp Dict Set ListComp Compare Call JoinedStr FormattedValue"
        " Constant Attribute Subscript Name List Tuple Slice arguments arg keyword alias ExceptHandler"
        " comprehension Load Store And Or Add Sub Mult FloorDiv Mod Pow LShift RShift BitOr BitXor BitAnd"
        " Invert Not UAdd USub Eq NotEq Lt LtE Gt GtE Is IsNot In NotIn"
    ).split()
)


def own_attributes(trees):
    """The methods and values that the package's own classes have."""
    found = set()
    for tree in trees:
        for node in ast.walk(tree):
            if isinstance(node, ast.ClassDef):
                found.update(part.name for part in node.body if isinstance(part, ast.FunctionDef))
            if isinstance(node, ast.Attribute) and isinstance(node.ctx, ast.Store):
                found.add(node.attr)
    return found


def faults(source, own=None):
    """A list of (line, rule) for each place of the source that breaks a rule."""
    tree = ast.parse(source)
    if own is None:
        own = own_attributes([tree])
    found = line_faults(source) + escape_faults(source) + top_faults(tree)
    for node in ast.walk(tree):
        line = getattr(node, "lineno", 0)
        if not isinstance(node, NODES):
            found.append((line, "L6 L7"))
        check = CHECKS.get(node.__class__)
        if check is not None:
            found.extend((line, rule) for rule in check(node))
        if isinstance(node, ast.Attribute) and node.attr not in own | METHODS | DUNDER_METHODS:
            found.append((line, "L25"))
    return sorted(set(found))


def line_faults(source):
    lines = source.split("\n")
    found = [(401, "L10")] if len(lines) > 401 else []
    for number, line in enumerate(lines, 1):
        if len(line) > 120 or "\t" in line:
            found.append((number, "L10"))
        if any(not " " <= sign <= "~" for sign in line):
            found.append((number, "L14"))
        if WORDS.search(line):
            found.append((number, "L17"))
    return found


def escape_faults(source):
    found = []
    for token in tokenize.generate_tokens(io.StringIO(source).readline):
        if tokenize.tok_name[token.type] in ("STRING", "FSTRING_MIDDLE"):
            if re.search(r"\\[^nt\\'\"]", token.string.replace("\\\\", "")):
                found.append((token.start[0], "L27"))
    return found


def top_faults(tree):
    found = []
    bound = []
    for place, node in enumerate(tree.body):
        if isinstance(node, (ast.FunctionDef, ast.ClassDef, ast.ImportFrom)):
            bound.extend(names_of(node))
        elif isinstance(node, ast.Assign) and isinstance(node.targets[0], ast.Name):
            bound.append(node.targets[0].id)
        elif not (place == 0 and is_plain_words(node)):
            found.append((node.lineno, "L3"))
    if len(bound) != len(set(bound)):
        found.append((0, "L15"))
    return found + inner_faults(tree)


def names_of(node):
    if isinstance(node, ast.ImportFrom):
        return [alias.asname or alias.name for alias in node.names]
    return [node.name]


def inner_faults(tree):
    found = []
    taken = set()
    for node in tree.body:
        if isinstance(node, (ast.ClassDef, ast.ImportFrom)):
            taken.update(names_of(node))
    for node in ast.walk(tree):
        if isinstance(node, ast.arg) and node.arg in taken:
            found.append((node.lineno, "L15"))
        if isinstance(node, ast.Name) and isinstance(node.ctx, ast.Store) and node.id in taken:
            found.append((node.lineno, "L15"))
        if isinstance(node, (ast.ClassDef, ast.ImportFrom)) and node not in tree.body:
            found.append((node.lineno, "L2 L15"))
    return found


def is_plain_words(node):
    return isinstance(node, ast.Expr) and isinstance(node.value, ast.Constant) and isinstance(node.value.value, str)


def name_faults(name):
    if name in NEVER or (hasattr(builtins, name) and name not in OWN_NAMES):
        yield "L8 L17"
    if name.startswith("_"):
        yield "L12"


def bound_faults(name):
    if hasattr(builtins, name):
        yield "L8 L15"
    yield from name_faults(name)


def check_function(node):
    plain = node.args
    if node.decorator_list or plain.vararg or plain.kwarg or plain.kwonlyargs or plain.posonlyargs:
        yield "L4"
    if node.end_lineno - node.lineno + 1 > 40:
        yield "L10"
    if node.name not in DUNDER_METHODS:
        yield from name_faults(node.name)


def check_class(node):
    if node.decorator_list or node.keywords or len(node.bases) > 1:
        yield "L5"
    if not all(isinstance(part, (ast.FunctionDef, ast.Pass)) for part in node.body):
        yield "L5"
    yield from bound_faults(node.name)


def check_assign(node):
    if len(node.targets) != 1:
        yield "L6"


def check_loop(node):
    if node.orelse:
        yield "L6"


def check_try(node):
    if node.finalbody:
        yield "L6"


def check_handler(node):
    taken = [part.id for part in ast.walk(node.type or node) if isinstance(part, ast.Name)]
    if node.type is None or "Exception" in taken or "TypeError" in taken:
        yield "L19"


def check_expression(node):
    if not isinstance(node.value, ast.Call) and not (is_plain_words(node) and node.lineno == 1):
        yield "L6"


def check_constant(node):
    if not (node.value is None or isinstance(node.value, (int, str))):
        yield "L7"
    if isinstance(node.value, str) and "%" in node.value:
        yield "L27"


def check_power(node):
    if isinstance(node.op, ast.Pow):
        plain = isinstance(node.right, ast.Constant) and isinstance(node.right.value, int)
        if not plain or not 0 <= node.right.value <= 64:
            yield "L27"


def check_braces(node):
    if not isinstance(node.value, ast.Name) or node.format_spec or node.conversion not in (-1, ord("r")):
        yield "L7"


def check_comprehension(node):
    if len(node.generators) > 1 or len(node.generators[0].ifs) > 1:
        yield "L7"


def check_compare(node):
    sides = [node.left] + node.comparators
    plain = any(isinstance(side, ast.Constant) and side.value in (None, True, False) for side in sides)
    if any(isinstance(sign, (ast.Is, ast.IsNot)) for sign in node.ops) and not plain:
        yield "L20"


def check_import(node):
    if node.level or any(alias.name == "*" for alias in node.names):
        yield "L2"
    if not (node.module or "").startswith(PACKAGE + ".") and node.module != "__future__":
        yield "L2 L16"


def check_attribute(node):
    if node.attr in NEVER:
        yield "L17"
    if node.attr.startswith("_") and node.attr != "__init__":
        yield "L12"


def check_name(node):
    yield from bound_faults(node.id) if isinstance(node.ctx, ast.Store) else name_faults(node.id)


def check_parameter(node):
    yield from bound_faults(node.arg)


CHECKS = {
    ast.FunctionDef: check_function,
    ast.ClassDef: check_class,
    ast.Assign: check_assign,
    ast.For: check_loop,
    ast.While: check_loop,
    ast.Try: check_try,
    ast.ExceptHandler: check_handler,
    ast.Expr: check_expression,
    ast.Constant: check_constant,
    ast.BinOp: check_power,
    ast.FormattedValue: check_braces,
    ast.ListComp: check_comprehension,
    ast.Compare: check_compare,
    ast.ImportFrom: check_import,
    ast.Attribute: check_attribute,
    ast.Name: check_name,
    ast.arg: check_parameter,
}
