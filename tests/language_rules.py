"""Looks for code of the package that lies outside the written rules of the language (L1 to L28).

It sees what can be seen line by line, node by node, and by what draws from what; rules that ask for more
(such as what a loop changes) are left to the reader.
"""

import ast
import builtins
import io
import re
import tokenize

PACKAGE = "beamtable"

OWN_NAMES = set(
    "len range enumerate zip min max sum abs sorted reversed int str bool list tuple dict set frozenset isinstance"
    " ord repr any all divmod Exception ValueError TypeError KeyError IndexError LookupError ZeroDivisionError"
    " ArithmeticError OverflowError RuntimeError NotImplementedError AttributeError StopIteration".split()
)
METHODS = set(
    "append clear copy count endswith extend find get index insert isalnum isalpha isdigit islower isspace isupper"
    " items join keys ljust lower lstrip partition pop remove replace reverse rfind rjust rpartition rsplit rstrip"
    " setdefault split splitlines startswith strip update upper values zfill bit_length".split()
)
DUNDER_METHODS = set("__init__ __eq__ __repr__ __str__ __len__".split())
NEVER = set("register mro elements open input version_info with_traceback add_note format format_map".split())
WORDS = re.compile(
    r"\b(type|typing|typing_extensions|enum|Enum|IntEnum|StrEnum|Flag|IntFlag|Generic|Protocol|ABC|ABCMeta"
    r"|namedtuple|NamedTuple|TypedDict|TYPE_CHECKING|abstractmethod)\b|dataclass|overload|contextmanager"
)
NODES = tuple(
    getattr(ast, name)
    for name in (
        "Module FunctionDef ClassDef Return Assign AugAssign For While If Raise Try ImportFrom Expr Pass Break"
        " Continue BoolOp BinOp UnaryOp Lambda IfExp Dict Set ListComp Compare Call JoinedStr FormattedValue"
        " Constant Attribute Subscript Name List Tuple Slice arguments arg keyword alias ExceptHandler"
        " comprehension Load Store And Or Add Sub Mult FloorDiv Mod Pow LShift RShift BitOr BitXor BitAnd"
        " Invert Not UAdd USub Eq NotEq Lt LtE Gt GtE Is IsNot In NotIn"
    ).split()
)


def own_attributes(trees):
    """The methods and values that the package's own classes have."""
    values = {node.attr for tree in trees for node in ast.walk(tree) if is_value_given(node)}
    return methods_of(trees) | values


def faults(source, own=None):
    """A list of (line, rule) for each place of the source that breaks a rule."""
    tree = ast.parse(source)
    if own is None:
        own = own_attributes([tree])
    found = line_faults(source) + escape_faults(source) + top_faults(tree) + use_faults(tree)
    for node in ast.walk(tree):
        line = getattr(node, "lineno", 0)
        if not isinstance(node, NODES):
            found.append((line, "L6 L7"))
        check = CHECKS.get(node.__class__)
        if check is not None:
            found.extend((line, rule) for rule in check(node))
        if isinstance(node, ast.Attribute) and node.attr not in own | METHODS | DUNDER_METHODS:
            found.append((line, "L25"))
    return sorted(set(found))


def parents_of(tree):
    """A dict of node: the node that holds it."""
    return {part: node for node in ast.walk(tree) for part in ast.iter_child_nodes(node)}


def use_faults(tree):
    """What is only to be seen by where a value stands: walks, sets, classes, the lists and dicts of the file's top."""
    parents = parents_of(tree)
    classes = class_names(tree)
    kept = kept_names(tree)
    found = []
    for node in ast.walk(tree):
        if is_walk(node) and not is_walked_at_once(node, parents):
            found.append((node.lineno, "L23"))
        if is_set(node) and not is_set_in_place(node, parents):
            found.append((node.lineno, "L24"))
        if isinstance(node, ast.Name) and isinstance(node.ctx, ast.Load):
            if node.id in classes and not is_class_in_place(node, parents):
                found.append((node.lineno, "L18"))
            if node.id in kept and not is_only_read(node, parents):
                found.append((node.lineno, "L15"))
    return found


def class_names(tree):
    names = set("ValueError KeyError IndexError LookupError ZeroDivisionError StopIteration".split())
    for node in tree.body:
        if isinstance(node, ast.ClassDef):
            names.add(node.name)
        # What is drawn from elsewhere is known by its letters: Cell is a class, ONE and plus are none.
        if isinstance(node, ast.ImportFrom):
            names.update(name for name in names_of(node) if name[0].isupper() and not name.isupper())
    return names


def kept_names(tree):
    named = [node for node in tree.body if isinstance(node, ast.Assign) and isinstance(node.targets[0], ast.Name)]
    return {node.targets[0].id for node in named if isinstance(node.value, (ast.List, ast.Dict))}


def called_name(node):
    return node.func.id if isinstance(node, ast.Call) and isinstance(node.func, ast.Name) else None


def is_walk(node):
    if called_name(node) in ("zip", "enumerate", "reversed", "range"):
        return True
    method = isinstance(node, ast.Call) and isinstance(node.func, ast.Attribute)
    return method and node.func.attr in ("items", "keys", "values")


def is_walked_at_once(node, parents):
    parent = parents[node]
    if isinstance(parent, (ast.For, ast.comprehension)):
        return parent.iter is node
    if called_name(parent) in ("min", "max"):
        return parent.args == [node]
    if called_name(parent) in ("enumerate", "zip"):
        return node in parent.args
    if called_name(parent) in "list tuple dict sorted sum any all".split():
        return parent.args[:1] == [node]
    joined = isinstance(parent, ast.Call) and isinstance(parent.func, ast.Attribute) and parent.func.attr == "join"
    return joined and isinstance(parent.func.value, ast.Constant)


def is_set(node):
    return isinstance(node, ast.Set) or called_name(node) in ("set", "frozenset")


def is_set_in_place(node, parents):
    parent = parents[node]
    while isinstance(parent, ast.BinOp):
        parent = parents[parent]
    return isinstance(parent, ast.Compare) or called_name(parent) in ("sorted", "len") and not parent.keywords


def is_class_in_place(node, parents):
    parent = parents[node]
    while isinstance(parent, ast.Tuple):
        parent = parents[parent]
    if isinstance(parent, ast.Attribute):
        return parent.attr == "__init__"
    if isinstance(parent, ast.Call):
        return parent.func is node or called_name(parent) == "isinstance"
    return isinstance(parent, (ast.ClassDef, ast.ExceptHandler, ast.Raise))


def is_only_read(node, parents):
    parent = parents[node]
    if isinstance(parent, ast.Subscript):
        return parent.value is node and isinstance(parent.ctx, ast.Load)
    if isinstance(parent, ast.Attribute):
        return parent.attr in "get items keys values index count".split()
    if isinstance(parent, ast.Call):
        return called_name(parent) in "len list tuple dict sorted enumerate zip reversed sum min max any all".split()
    return isinstance(parent, (ast.For, ast.comprehension, ast.Compare))


def package_faults(sources):
    """A list of (file name, rule) for what is only to be seen of all files (a dict of name: source) together."""
    trees = {name: ast.parse(source) for name, source in sources.items()}
    found = [(name, "L16") for name in trees if name in drawn_from(name, trees)]
    for name, tree in trees.items():
        for node in tree.body:
            if isinstance(node, ast.ImportFrom) and not set(names_of(node)) <= defined_in(file_of(node), trees):
                found.append((name, "L16"))
    methods = methods_of(trees.values())
    values = {node.attr for tree in trees.values() for node in ast.walk(tree) if is_value_given(node)}
    return sorted(set(found)) + [(name, "L18") for name in sorted(methods & values)]


def file_of(node):
    return (node.module or "").rpartition(".")[2] + ".py"


def drawn_from(name, trees):
    reached = set()
    ahead = [name]
    while ahead:
        for node in trees[ahead.pop()].body:
            if isinstance(node, ast.ImportFrom) and file_of(node) in trees and file_of(node) not in reached:
                reached.add(file_of(node))
                ahead.append(file_of(node))
    return reached


def defined_in(name, trees):
    found = set()
    for node in trees[name].body if name in trees else []:
        if isinstance(node, (ast.FunctionDef, ast.ClassDef)):
            found.add(node.name)
        if isinstance(node, ast.Assign) and isinstance(node.targets[0], ast.Name):
            found.add(node.targets[0].id)
    return found


def methods_of(trees):
    classes = [node for tree in trees for node in tree.body if isinstance(node, ast.ClassDef)]
    return {part.name for node in classes for part in node.body if isinstance(part, ast.FunctionDef)}


def is_value_given(node):
    return isinstance(node, ast.Attribute) and isinstance(node.ctx, ast.Store)


def line_faults(source):
    lines = source.split("\n")
    found = [(401, "L10")] if len(lines) > 401 else []
    for number, line in enumerate(lines, 1):
        if len(line) > 120 or "\t" in line:
            found.append((number, "L10"))
        if any(not " " <= sign <= "~" for sign in line):
            found.append((number, "L14"))
        if WORDS.search(line):
            found.append((number, "L17"))
    return found


def escape_faults(source):
    found = []
    for token in tokenize.generate_tokens(io.StringIO(source).readline):
        if tokenize.tok_name[token.type] in ("STRING", "FSTRING_MIDDLE"):
            if re.search(r"\\[^nt\\'\"]", token.string.replace("\\\\", "")):
                found.append((token.start[0], "L27"))
    return found


def top_faults(tree):
    found = []
    bound = []
    for place, node in enumerate(tree.body):
        if isinstance(node, (ast.FunctionDef, ast.ClassDef, ast.ImportFrom)):
            bound.extend(names_of(node))
        elif isinstance(node, ast.Assign) and isinstance(node.targets[0], ast.Name):
            bound.append(node.targets[0].id)
        elif not (place == 0 and is_plain_words(node)):
            found.append((node.lineno, "L3"))
    if len(bound) != len(set(bound)):
        found.append((0, "L15"))
    return found + inner_faults(tree)


def names_of(node):
    if isinstance(node, ast.ImportFrom):
        return [alias.asname or alias.name for alias in node.names]
    return [node.name]


def inner_faults(tree):
    found = []
    taken = set()
    for node in tree.body:
        if isinstance(node, (ast.ClassDef, ast.ImportFrom)):
            taken.update(names_of(node))
    for node in ast.walk(tree):
        if isinstance(node, ast.arg) and node.arg in taken:
            found.append((node.lineno, "L15"))
        if isinstance(node, ast.Name) and isinstance(node.ctx, ast.Store) and node.id in taken:
            found.append((node.lineno, "L15"))
        if isinstance(node, (ast.ClassDef, ast.ImportFrom)) and node not in tree.body:
            found.append((node.lineno, "L2 L15"))
    return found


def is_plain_words(node):
    return isinstance(node, ast.Expr) and isinstance(node.value, ast.Constant) and isinstance(node.value.value, str)


def name_faults(name):
    if name in NEVER or (hasattr(builtins, name) and name not in OWN_NAMES):
        yield "L8 L17"
    if name.startswith("_"):
        yield "L12"


def bound_faults(name):
    if hasattr(builtins, name):
        yield "L8 L15"
    yield from name_faults(name)


def check_function(node):
    plain = node.args
    if node.decorator_list or plain.vararg or plain.kwarg or plain.kwonlyargs or plain.posonlyargs:
        yield "L4"
    if node.end_lineno - node.lineno + 1 > 40:
        yield "L10"
    if node.name not in DUNDER_METHODS:
        yield from name_faults(node.name)


def check_class(node):
    if node.decorator_list or node.keywords or len(node.bases) > 1:
        yield "L5"
    if not all(isinstance(part, (ast.FunctionDef, ast.Pass)) for part in node.body):
        yield "L5"
    yield from bound_faults(node.name)


def check_assign(node):
    if len(node.targets) != 1:
        yield "L6"


def check_loop(node):
    if node.orelse:
        yield "L6"


def check_try(node):
    if node.finalbody:
        yield "L6"


def check_handler(node):
    taken = [part.id for part in ast.walk(node.type or node) if isinstance(part, ast.Name)]
    if node.type is None or "Exception" in taken or "TypeError" in taken:
        yield "L19"


def check_expression(node):
    if not isinstance(node.value, ast.Call) and not (is_plain_words(node) and node.lineno == 1):
        yield "L6"


def check_constant(node):
    if not (node.value is None or isinstance(node.value, (int, str))):
        yield "L7"
    if isinstance(node.value, str) and "%" in node.value:
        yield "L27"


def check_power(node):
    if isinstance(node.op, ast.Pow):
        plain = isinstance(node.right, ast.Constant) and isinstance(node.right.value, int)
        if not plain or not 0 <= node.right.value <= 64:
            yield "L27"


def check_braces(node):
    if not isinstance(node.value, ast.Name) or node.format_spec or node.conversion not in (-1, ord("r")):
        yield "L7"


def check_comprehension(node):
    if len(node.generators) > 1 or len(node.generators[0].ifs) > 1:
        yield "L7"


def check_compare(node):
    sides = [node.left] + node.comparators
    plain = any(isinstance(side, ast.Constant) and side.value in (None, True, False) for side in sides)
    if any(isinstance(sign, (ast.Is, ast.IsNot)) for sign in node.ops) and not plain:
        yield "L20"


def check_import(node):
    if node.level or any(alias.name == "*" for alias in node.names):
        yield "L2"
    if not (node.module or "").startswith(PACKAGE + ".") and node.module != "__future__":
        yield "L2 L16"


def check_attribute(node):
    if node.attr in NEVER:
        yield "L17"
    if node.attr.startswith("_") and node.attr != "__init__":
        yield "L12"


def check_name(node):
    yield from bound_faults(node.id) if isinstance(node.ctx, ast.Store) else name_faults(node.id)


def check_parameter(node):
    yield from bound_faults(node.arg)


CHECKS = {
    ast.FunctionDef: check_function,
    ast.ClassDef: check_class,
    ast.Assign: check_assign,
    ast.For: check_loop,
    ast.While: check_loop,
    ast.Try: check_try,
    ast.ExceptHandler: check_handler,
    ast.Expr: check_expression,
    ast.Constant: check_constant,
    ast.BinOp: check_power,
    ast.FormattedValue: check_braces,
    ast.ListComp: check_comprehension,
    ast.Compare: check_compare,
    ast.ImportFrom: check_import,
    ast.Attribute: check_attribute,
    ast.Name: check_name,
    ast.arg: check_parameter,
}
