"""Checks the rules of LANGUAGE.md that can be seen file by file. Usage: check_language.py PACKAGE

It does not know all rules: what it finds breaks one, and what it lets through may break another.
"""

import ast
import builtins
import pathlib
import sys

STATEMENTS = (
    ast.Assign, ast.AugAssign, ast.AnnAssign, ast.If, ast.While, ast.For, ast.Return, ast.Break, ast.Continue, ast.Pass,
    ast.Raise, ast.Assert, ast.Delete, ast.Nonlocal, ast.Match, ast.With, ast.Try, ast.Expr, ast.FunctionDef,
    ast.ClassDef, ast.ImportFrom, ast.Import,
)
BUILTINS = set(
    "len range enumerate zip min max sum abs sorted reversed int str bool bytes list tuple dict set frozenset "
    "isinstance ord repr any all divmod pow iter next map type property staticmethod classmethod super Exception "
    "ValueError TypeError KeyError IndexError LookupError ZeroDivisionError ArithmeticError OverflowError "
    "RuntimeError NotImplementedError AttributeError StopIteration NotImplemented".split()
)
BARRED_NAMES = set("register mro elements open input law version_info with_traceback add_note".split())
BARRED_WORDS = set(
    "typing typing_extensions enum Enum IntEnum StrEnum Flag IntFlag Generic Protocol ABC ABCMeta namedtuple "
    "NamedTuple TypedDict TYPE_CHECKING abstractmethod dataclass overload contextmanager".split()
)
OUTSIDE = {"heapq", "math", "itertools", "collections"}
DECORATORS = {"property", "staticmethod", "classmethod"}
VALUE_METHODS = {name for kind in (str, list, dict, bytes, int, set) for name in dir(kind)}
ALLOWED_METHODS = set(
    "append clear copy count endswith extend find get index insert isalnum isalpha isdigit islower isspace isupper "
    "items join keys ljust lower lstrip partition pop remove replace reverse rfind rjust rpartition rsplit rstrip "
    "setdefault split splitlines startswith strip update upper values zfill bit_length title capitalize swapcase "
    "casefold center expandtabs removeprefix removesuffix rindex isascii isdecimal isnumeric istitle isidentifier "
    "isprintable add discard sort format".split()
)


class Checker:
    def __init__(self, package, path):
        self.package = package
        self.path = path
        self.text = path.read_text(encoding="utf-8")
        self.faults = []

    def fault(self, rule, line, what):
        self.faults.append(f"{self.path}:{line}: {rule}: {what}")

    def check(self):
        lines = self.text.split("\n")
        if len(lines) > 400:
            self.fault("L10", 400, "the file has more than 399 lines")
        for number, line in enumerate(lines, start=1):
            if len(line) > 120:
                self.fault("L10", number, "the line has more than 120 characters")
            if any(not " " <= character <= "~" for character in line):
                self.fault("L14", number, "a character that is not from the space to ~")
        tree = ast.parse(self.text)
        self.outer_names(tree)
        for node in tree.body:
            self.at_module_level(node)
        for node in ast.walk(tree):
            self.anywhere(node)
        self.sets(tree)

    def outer_names(self, tree):
        """The names of the imports and the classes, which no variable may have."""
        self.taken = set()
        for node in tree.body:
            if isinstance(node, ast.ClassDef):
                self.taken.add(node.name)
            if isinstance(node, ast.ImportFrom):
                self.taken.update(alias.asname or alias.name for alias in node.names)

    def at_module_level(self, node):
        plain = isinstance(node, (ast.FunctionDef, ast.ClassDef, ast.ImportFrom))
        docstring = isinstance(node, ast.Expr) and isinstance(node.value, ast.Constant)
        value = isinstance(node, ast.Assign) and len(node.targets) == 1 and isinstance(node.targets[0], ast.Name)
        if not (plain or docstring or value):
            self.fault("L3", node.lineno, "a statement that cannot stand at module level")
        if value and any(isinstance(inside, (ast.Call, ast.comprehension)) for inside in ast.walk(node.value)):
            self.fault("L3", node.lineno, "a value that is not plain")

    def anywhere(self, node):
        line = getattr(node, "lineno", 0)
        if isinstance(node, ast.stmt) and not isinstance(node, STATEMENTS):
            self.fault("L6", line, type(node).__name__)
        for kind, method in (
            (ast.ImportFrom, self.imports), (ast.FunctionDef, self.function), (ast.ClassDef, self.a_class),
            (ast.Name, self.name), (ast.Attribute, self.attribute), (ast.Constant, self.constant), (ast.Call, self.call),
        ):
            if isinstance(node, kind):
                method(node, line)
        if isinstance(node, ast.Import):
            self.fault("L16", line, "import without from")
        if isinstance(node, (ast.BinOp, ast.AugAssign)) and isinstance(node.op, ast.Div):
            self.fault("L7", line, "a division by /")
        if isinstance(node, ast.AugAssign) and isinstance(node.op, (ast.Add, ast.BitOr)):
            self.walked(node.target, node.value, line)
        if isinstance(node, ast.Compare):
            for operator, right in zip(node.ops, node.comparators):
                if isinstance(operator, (ast.Is, ast.IsNot)) and not isinstance(right, ast.Constant):
                    self.fault("L20", line, "is beside something else than None, True or False")
        if isinstance(node, ast.BinOp) and isinstance(node.op, ast.Pow) and not isinstance(node.right, ast.Constant):
            self.fault("L27", line, "an exponent that is not a literal")

    def imports(self, node, line):
        top = (node.module or "").split(".")[0]
        if node.level or top not in OUTSIDE | {self.package} or any(alias.name == "*" for alias in node.names):
            self.fault("L2", line, "an import from elsewhere")
        if any(alias.asname for alias in node.names):
            self.fault("L2", line, "an import under another name")

    def function(self, node, line):
        first = min([line] + [decorator.lineno for decorator in node.decorator_list])
        if node.end_lineno - first + 1 > 40:
            self.fault("L10", line, f"{node.name} has more than 40 lines")
        for decorator in node.decorator_list:
            setter = isinstance(decorator, ast.Attribute) and decorator.attr == "setter"
            if not setter and not (isinstance(decorator, ast.Name) and decorator.id in DECORATORS):
                self.fault("L4", line, "a decorator")
        arguments = node.args
        for argument in arguments.posonlyargs + arguments.args + arguments.kwonlyargs:
            self.bound(argument.arg, line)

    def a_class(self, node, line):
        if node.decorator_list:
            self.fault("L5", line, "a decorator over a class")

    def name(self, node, line):
        if isinstance(node.ctx, ast.Store):
            self.bound(node.id, line)
        elif node.id in dir(builtins) and node.id not in BUILTINS:
            self.fault("L8", line, f"the builtin {node.id}")
        if node.id in BARRED_NAMES:
            self.fault("L17", line, node.id)

    def bound(self, name, line):
        if name in dir(builtins) or name in BARRED_NAMES:
            self.fault("L15", line, f"a variable called {name}")
        if name in self.taken:
            self.fault("L15", line, f"a variable with the name of an import or a class: {name}")

    def attribute(self, node, line):
        if node.attr in BARRED_NAMES | {"format_map"}:
            self.fault("L17", line, node.attr)
        if node.attr.startswith("__") and node.attr not in ("__init__", "__class__", "__name__"):
            self.fault("L8", line, node.attr)
        if node.attr in VALUE_METHODS and not node.attr.startswith("__") and node.attr not in ALLOWED_METHODS:
            self.fault("L25", line, node.attr)

    def constant(self, node, line):
        if isinstance(node.value, (float, complex)):
            self.fault("L7", line, "a float")
        if isinstance(node.value, str) and node.value in BARRED_WORDS:
            self.fault("L17", line, node.value)

    def call(self, node, line):
        if isinstance(node.func, ast.Name) and node.func.id == "pow" and len(node.args) == 2:
            self.fault("L27", line, "pow with two arguments")
        if isinstance(node.func, ast.Name) and node.func.id in ("print", "getattr", "setattr", "hasattr", "chr"):
            self.fault("L8", line, node.func.id)
        if isinstance(node.func, ast.Attribute) and node.func.attr in ("extend", "update"):
            for argument in node.args:
                self.walked(node.func.value, argument, line)

    def walked(self, changed, value, line):
        """What extend, update, += or |= walks is not what they change, nor an item of the same list."""
        choices = [value]
        if isinstance(value, ast.IfExp):
            choices = [value.body, value.orelse]
        if isinstance(value, ast.BoolOp):
            choices = value.values
        if any(ast.unparse(container(choice)) == ast.unparse(container(changed)) for choice in choices):
            self.fault("L23", line, "extend, update, += or |= gets what it changes")

    def sets(self, tree):
        """A set stands behind in, beside ==, in sorted or len, or alone in an assignment."""
        parents = {child: node for node in ast.walk(tree) for child in ast.iter_child_nodes(node)}
        for node in ast.walk(tree):
            made = isinstance(node, ast.Call) and isinstance(node.func, ast.Name) and node.func.id == "set"
            if not made and not isinstance(node, (ast.Set, ast.SetComp)):
                continue
            around = parents[node]
            while isinstance(around, ast.BinOp):
                around = parents[around]
            measured = isinstance(around, ast.Call) and getattr(around.func, "id", "") in ("sorted", "len")
            if not (measured or isinstance(around, (ast.Compare, ast.Assign))):
                self.fault("L24", node.lineno, "a set in another place")


def container(node):
    """What an item is an item of, at any depth; any other expression itself."""
    while isinstance(node, ast.Subscript):
        node = node.value
    return node


def main():
    package = sys.argv[1]
    faults = []
    for path in sorted(pathlib.Path(package).rglob("*")):
        if "__pycache__" in path.parts or path.is_dir():
            continue
        if path.suffix != ".py":
            faults.append(f"{path}: L1: not a .py file")
            continue
        checker = Checker(package, path)
        checker.check()
        faults.extend(checker.faults)
    print("\n".join(faults) or f"{package}: no rule of the language is seen broken")
    return 1 if faults else 0


if __name__ == "__main__":
    sys.exit(main())
