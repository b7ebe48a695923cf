"""Reads a file of the package and tells where it leaves ../shared/LANGUAGE.md.

Of one file it sees L2 to L10, L12, L14, L15, L17, L19, L20, L25 and L27 in part, of all files together L16 and L18 in
part; the others (L11, L13, L21 to L24, L26, L28) it does not see. So it is no stand-in for reading the rules.
"""

import ast
import builtins
import re

PACKAGE = "latefare"
OWN_NAMES = """len range enumerate zip min max sum abs sorted reversed int str bool list tuple dict set frozenset
isinstance ord repr any all divmod Exception ValueError TypeError KeyError IndexError LookupError ZeroDivisionError
ArithmeticError OverflowError RuntimeError NotImplementedError AttributeError StopIteration""".split()
OWN_METHODS = """append clear copy count endswith extend find get index insert isalnum isalpha isdigit islower isspace
isupper items join keys ljust lower lstrip partition pop remove replace reverse rfind rjust rpartition rsplit rstrip
setdefault split splitlines startswith strip update upper values zfill bit_length""".split()
PYTHON_METHODS = [name for kind in (str, int, list, tuple, dict, set, bytes) for name in dir(kind)]
UNDERSCORED = ["__init__", "__eq__", "__repr__", "__str__", "__len__"]
NEVER = """register mro elements open input version_info with_traceback add_note attrgetter breakpoint builtins compile
copyright credits delattr dir eval exec exit gc getattr globals hasattr help id importlib license locals methodcaller
os quit setattr super type vars sys format format_map""".split()
WORDS = re.compile(r"\b(type|typing|typing_extensions|enum|Enum|IntEnum|StrEnum|Flag|IntFlag|Generic|Protocol|ABC"
                   r"|ABCMeta|namedtuple|NamedTuple|TypedDict|TYPE_CHECKING|abstractmethod)\b"
                   r"|dataclass|overload|contextmanager")
NODES = """Module FunctionDef ClassDef Return Assign AugAssign For While If Raise Try ImportFrom Expr Pass Break
Continue BoolOp BinOp UnaryOp Lambda IfExp Dict Set ListComp Compare Call JoinedStr FormattedValue Constant Attribute
Subscript Name List Tuple Slice Load Store And Or Add Sub Mult FloorDiv Mod Pow LShift RShift BitOr BitXor BitAnd
Invert Not USub UAdd Eq NotEq Lt LtE Gt GtE Is IsNot In NotIn comprehension ExceptHandler arguments arg keyword
alias""".split()


def faults(source):
    """A list of texts, one for each breach found."""
    tree = ast.parse(source)
    found = text_faults(source) + top_faults(tree)
    for node in ast.walk(tree):
        line = getattr(node, "lineno", 0)
        if type(node).__name__ not in NODES:
            found.append(f"L6/L7 line {line}: {type(node).__name__}")
        found.extend(f"{said} (line {line})" for said in node_faults(node))
    return found


def shared_faults(sources):
    """The same for the files together, a dict of their texts by their names."""
    trees = {name: ast.parse(source) for name, source in sources.items()}
    found = [f"L16: {name} draws from itself" for name in trees if name in drawn_from(name, trees)]
    nodes = [node for tree in trees.values() for node in ast.walk(tree)]
    methods = {part.name for node in nodes if isinstance(node, ast.ClassDef) for part in node.body
               if isinstance(part, ast.FunctionDef)}
    values = {node.attr for node in nodes if isinstance(node, ast.Attribute) and isinstance(node.ctx, ast.Store)}
    return found + [f"L18: {name} is a method and a value" for name in sorted(methods & values)]


def drawn_from(name, trees):
    """The files that one draws from, in however many steps."""
    found = []
    waiting = [name]
    while waiting:
        for node in trees[waiting.pop()].body:
            if isinstance(node, ast.ImportFrom):
                drawn = node.module.removeprefix(PACKAGE + ".")
                if drawn in trees and drawn not in found:
                    found.append(drawn)
                    waiting.append(drawn)
    return found


def text_faults(source):
    found = []
    for number, row in enumerate(source.split("\n"), start=1):
        if len(row) > 120:
            found.append(f"L10 line {number}: too long")
        if any(not " " <= sign <= "~" for sign in row):
            found.append(f"L14 line {number}: a sign that is not to be there")
        if WORDS.search(row):
            found.append(f"L17 line {number}: a word that is not to be there")
    if len(source.splitlines()) > 400:
        found.append("L10: more than 400 lines")
    return found


def top_faults(tree):
    found = []
    bound = []
    for place, node in enumerate(tree.body):
        if isinstance(node, (ast.FunctionDef, ast.ClassDef)):
            bound.append(node.name)
        elif isinstance(node, ast.ImportFrom):
            bound.extend(alias.asname or alias.name for alias in node.names)
        elif isinstance(node, ast.Assign) and isinstance(node.targets[0], ast.Name) and is_plain(node.value):
            bound.append(node.targets[0].id)
        elif not (place == 0 and isinstance(node, ast.Expr) and isinstance(node.value, ast.Constant)):
            found.append(f"L3 line {node.lineno}: not for a file's top")
    found.extend(f"L15: {name} is bound twice" for name in set(bound) if bound.count(name) > 1)
    return found


def is_plain(node):
    if isinstance(node, (ast.List, ast.Tuple)):
        return all(is_plain(part) for part in node.elts)
    if isinstance(node, ast.Dict):
        return all(is_plain(part) for part in node.keys + node.values)
    if isinstance(node, ast.UnaryOp) and isinstance(node.op, ast.USub):
        return is_plain(node.operand)
    return isinstance(node, (ast.Constant, ast.Name))


def node_faults(node):
    checks = {
        ast.ImportFrom: import_faults, ast.FunctionDef: function_faults, ast.ClassDef: class_faults,
        ast.Name: name_faults, ast.Attribute: attribute_faults, ast.Constant: constant_faults,
        ast.BinOp: sum_faults, ast.Compare: compare_faults, ast.ListComp: walk_faults, ast.Assign: assign_faults,
        ast.ExceptHandler: handler_faults, ast.Call: call_faults, ast.arg: argument_faults,
    }
    found = checks[type(node)](node) if type(node) in checks else []
    if isinstance(node, (ast.For, ast.While)) and node.orelse:
        found = found + ["L6 else behind a loop"]
    if isinstance(node, ast.Try) and node.finalbody:
        found = found + ["L6 finally"]
    if isinstance(node, ast.Expr) and not isinstance(node.value, (ast.Call, ast.Constant)):
        found = found + ["L6 a value by itself"]
    return found


def import_faults(node):
    found = []
    if node.level or not (node.module or "").startswith(PACKAGE + "."):
        found.append("L2 import from outside the package")
    if node.col_offset:
        found.append("L2 import not at the top")
    if any(alias.name == "*" for alias in node.names):
        found.append("L2 import *")
    return found


def function_faults(node):
    found = own_name_faults(node.name) if node.name not in UNDERSCORED else []
    if node.end_lineno - node.lineno + 1 > 40:
        found.append(f"L10 {node.name} has more than 40 lines")
    asked = node.args
    if node.decorator_list or asked.vararg or asked.kwarg or asked.kwonlyargs or asked.posonlyargs:
        found.append(f"L4 {node.name}: decorator, star or marked parameters")
    return found


def class_faults(node):
    found = own_name_faults(node.name)
    if node.col_offset:
        found.append("L15 a class not at the top")
    if node.decorator_list or node.keywords or len(node.bases) > 1:
        found.append(f"L5 {node.name}: decorator, keyword or several bases")
    if not all(isinstance(part, (ast.FunctionDef, ast.Pass)) or is_docstring(part) for part in node.body):
        found.append(f"L5 {node.name}: a value in the class body")
    return found


def is_docstring(node):
    return isinstance(node, ast.Expr) and isinstance(node.value, ast.Constant) and isinstance(node.value.value, str)


def own_name_faults(name):
    found = []
    if name.startswith("_"):
        found.append(f"L12 {name} begins with an underscore")
    if hasattr(builtins, name):
        found.append(f"L15 {name} is a name of Python's own")
    if name in NEVER:
        found.append(f"L17 {name} is not used")
    return found


def name_faults(node):
    if isinstance(node.ctx, ast.Load) and node.id in OWN_NAMES:
        return []
    return own_name_faults(node.id)


def argument_faults(node):
    return own_name_faults(node.arg)


def attribute_faults(node):
    name = node.attr
    if name in NEVER or (name.startswith("_") and name != "__init__"):
        return [f"L17 {name} is not used"]
    if name in PYTHON_METHODS and name not in OWN_METHODS + ["__init__", "add", "discard", "title"]:
        return [f"L25 {name} is none of the methods allowed"]
    return []


def constant_faults(node):
    if not (node.value is None or isinstance(node.value, (bool, int, str))):
        return ["L7 a value that is no whole number or text"]
    if isinstance(node.value, str) and "%" in node.value:
        return ["L27 a text with that sign"]
    return []


def sum_faults(node):
    if isinstance(node.op, ast.Pow):
        written = isinstance(node.right, ast.Constant) and isinstance(node.right.value, int)
        if not written or not 0 <= node.right.value <= 64:
            return ["L27 an exponent that is not written or is above 64"]
    return []


def compare_faults(node):
    for sign, value in zip(node.ops, node.comparators):
        if isinstance(sign, (ast.Is, ast.IsNot)):
            if not (isinstance(value, ast.Constant) and (value.value is None or isinstance(value.value, bool))):
                return ["L20 is beside another thing than None, True, False"]
    return []


def walk_faults(node):
    if len(node.generators) > 1 or len(node.generators[0].ifs) > 1:
        return ["L7 a comprehension with more than one for or if"]
    return []


def assign_faults(node):
    return ["L6 more than one target"] if len(node.targets) > 1 else []


def handler_faults(node):
    if node.type is None or ast.unparse(node.type) in ("Exception", "TypeError", "BaseException"):
        return ["L19 an except that takes too much"]
    return []


def call_faults(node):
    if any(isinstance(part, ast.Starred) for part in node.args) or any(part.arg is None for part in node.keywords):
        return ["L7 a star"]
    return []
