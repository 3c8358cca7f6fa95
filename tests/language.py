"""Checks what a small script can check of the rules in LANGUAGE.md, over all files of a package.

    python3 tests/language.py boundedlevels

prints each fault with its file, line and rule, and fails if there is one.
"""

import ast
import builtins
import io
import pathlib
import re
import sys
import tokenize

from classes import class_faults
from uses import compares, use_faults

BUILTINS = {name for name in dir(builtins) if not name.startswith("_")}
ALLOWED_BUILTINS = set("""len range enumerate zip min max sum abs sorted reversed int str bool bytes list tuple dict
    set frozenset isinstance ord repr any all divmod iter next map Exception ValueError TypeError KeyError IndexError
    LookupError ZeroDivisionError ArithmeticError OverflowError RuntimeError NotImplementedError AttributeError
    StopIteration NotImplemented property staticmethod classmethod super object float""".split())
LIBRARY = {
    "heapq": {"heappush", "heappop", "heapify", "heapreplace", "heappushpop"},
    "math": {"gcd", "lcm", "isqrt", "comb", "perm", "factorial"},
    "itertools": {"product", "combinations", "permutations"},
    "__future__": {"annotations"},
}
METHODS = set("""append clear copy count endswith extend find get index insert isalnum isalpha isdigit islower isspace
    isupper items join keys ljust lower lstrip partition pop remove replace reverse rfind rjust rpartition rsplit
    rstrip setdefault split splitlines startswith strip update upper values zfill bit_length title capitalize swapcase
    casefold center expandtabs removeprefix removesuffix rindex isascii isdecimal isnumeric istitle isidentifier
    isprintable translate maketrans encode decode hex add discard sort from_bytes""".split())
DUNDERS = {f"__{name}__" for name in """init eq repr str len enter exit call iter lt le gt ge ne add sub mul floordiv
    mod pow and or xor lshift rshift radd rsub rmul rfloordiv rmod rand ror rxor rlshift rrshift iadd isub imul
    ifloordiv imod ipow iand ior ixor ilshift irshift neg pos invert abs bool contains getitem setitem""".split()}
FRAMES = {"f_back", "f_code", "f_globals", "f_locals", "f_lasti", "f_lineno", "f_trace", "tb_next", "tb_frame",
          "tb_lasti", "tb_lineno", "co_names", "co_code", "co_consts", "co_varnames"}
NOWHERE = {"register", "mro", "elements", "open", "input", "law", "version_info", "with_traceback", "add_note"} | FRAMES
NO_VARIABLE = set("""attrgetter breakpoint builtins compile copyright credits delattr dir eval exec exit gc getattr
    globals hasattr help id importlib license locals methodcaller os quit setattr super type vars sys
    __name__""".split())
NO_WORD = set("""type typing typing_extensions enum Enum IntEnum StrEnum Flag IntFlag Generic Protocol ABC ABCMeta
    namedtuple NamedTuple TypedDict TYPE_CHECKING abstractmethod""".split())
NO_PART = ("dataclass", "overload", "contextmanager")
NO_BEGINNING = ("_wall", "_pe_", "_dcw_", "_enum_", "_cm_", "_twin_re_", "_lay_", "_law_", "_stub_", "_sre",
                "_WallAttr")
NO_STEM = {"_cold", "_tuplegetter", "_outside", "_record", "_written_out", "_member_names"}
NO_ATTRIBUTE = set("""items keys values pop update append clear extend insert remove reverse setdefault sort args
    encode decode hex fromhex format format_map mro as_integer_ratio bit_count conjugate from_bytes is_integer
    to_bytes""".split())
NO_FILE = {"test", "tests", "testing", "site", "conftest", "sitecustomize", "usercustomize"}
NO_NODE = (ast.Global, ast.AsyncFunctionDef, ast.AsyncFor, ast.AsyncWith, ast.Await, ast.TryStar)
PLAIN_NODES = (ast.Constant, ast.Tuple, ast.List, ast.Dict, ast.Name, ast.UnaryOp, ast.BinOp, ast.expr_context,
               ast.operator, ast.unaryop)
FUNCTIONS = (ast.FunctionDef, ast.Lambda)
SIZES = {"function": 40, "file": 399, "line": 120, "files": 100, "digits": 900}


class Checker:
    """Collects the faults of one package."""

    def __init__(self, folder):
        self.folder = pathlib.Path(folder)
        self.package = self.folder.name
        self.faults = []
        self.trees = {}

    def fault(self, path, line, rule, what):
        self.faults.append(f"{path.relative_to(self.folder.parent)}:{line}: {rule}: {what}")

    def check(self):
        paths = [path for path in sorted(self.folder.rglob("*")) if "__pycache__" not in path.parts]
        files = [path for path in paths if path.is_file()]
        self.check_folders(paths, files)
        for path in files:
            if path.suffix == ".py" and self.check_text(path):
                self.trees[self.module_of(path)] = (path, ast.parse(path.read_text(encoding="ascii")))
        self.own = {node.name for _, tree in self.trees.values() for node in ast.walk(tree)
                    if isinstance(node, (ast.FunctionDef, ast.ClassDef))}
        with_eq = compares([tree for _, tree in self.trees.values()])
        for path, tree in self.trees.values():
            self.check_tree(path, tree)
            for line, rule, what in use_faults(tree, with_eq):
                self.fault(path, line, rule, what)
        for path, line, rule, what in class_faults(list(self.trees.values())):
            self.fault(path, line, rule, what)
        self.check_rings()
        return self.faults

    def module_of(self, path):
        parts = path.relative_to(self.folder.parent).with_suffix("").parts
        return ".".join(parts[:-1] if parts[-1] == "__init__" else parts)

    def check_folders(self, paths, files):
        if len(files) > SIZES["files"]:
            self.fault(self.folder, 0, "L14", "too many files")
        for path in [self.folder, *paths]:
            if path.is_dir() and not (path / "__init__.py").is_file():
                self.fault(path, 0, "L14", "a folder without __init__.py")
            if path.is_file() and path.suffix != ".py":
                self.fault(path, 0, "L1", "no .py file")
            if not re.fullmatch(r"[a-z][a-z0-9_]*|__init__|__main__", path.stem):
                self.fault(path, 0, "L14", "no plain lower-case name")
            if path.stem in NO_FILE | BUILTINS | NO_WORD | set(LIBRARY) or re.match(r"law_|test_", path.stem):
                self.fault(path, 0, "L14", "a name that no file has")
            if path.is_dir() and path.with_suffix(".py").exists():
                self.fault(path, 0, "L14", "a file with the name of a folder beside it")

    def check_text(self, path):
        text = path.read_bytes().decode("utf-8")
        lines = text.split("\n")
        count = len(self.faults)
        for number, line in enumerate(lines, 1):
            if re.search(r"[^ -~]", line):
                self.fault(path, number, "L14", "a character that is not from the blank to ~")
            if len(line) > SIZES["line"]:
                self.fault(path, number, "L10", "a line too long")
            if "_wall" in line or "_WallAttr" in line:
                self.fault(path, number, "L12", "a word that stands nowhere")
        if len(text.splitlines()) > SIZES["file"]:
            self.fault(path, len(lines), "L10", "a file too long")
        return len(self.faults) == count

    def check_tree(self, path, tree):
        self.check_words(path, tree)
        self.check_imports(path, tree)
        self.check_module_level(path, tree)
        self.check_bindings(path, tree)
        for node in ast.walk(tree):
            self.check_size(path, node)
            self.check_names(path, node)
            self.check_values(path, node)
            self.check_statements(path, node)
            self.check_calls(path, node)

    def check_words(self, path, tree):
        docs = set()
        for node in ast.walk(tree):
            if isinstance(node, (ast.Module, ast.ClassDef, ast.FunctionDef)) and ast.get_docstring(node) is not None:
                docs.add((node.body[0].lineno, node.body[0].col_offset))
        for token in tokenize.generate_tokens(io.StringIO(path.read_text(encoding="ascii")).readline):
            if token.type == tokenize.COMMENT or token.start in docs:
                continue
            # Later Pythons tell the text of an f-string as a token of its own kind.
            string = tokenize.tok_name[token.type] in ("STRING", "FSTRING_MIDDLE")
            for word in re.findall(r"\w+", token.string):
                barred = word in NO_WORD and not (word == "type" and string)
                if barred or any(part in word for part in NO_PART):
                    self.fault(path, token.start[0], "L17", f"the word {word}")
            if string:
                self.check_string(path, token)

    def check_string(self, path, token):
        body = token.string
        if "%" in body:
            self.fault(path, token.start[0], "L27", "a % in a string")
        if re.search(r"\\[^nt\\'\"]", body.replace("\\\\", "")):
            self.fault(path, token.start[0], "L27", "an escape")
        if re.fullmatch(r"f?['\"]__.*__['\"]", body) and body.strip("f'\"") != "__main__":
            self.fault(path, token.start[0], "L27", "a string between underscores")

    def check_imports(self, path, tree):
        behind = False
        used = {node.id for node in ast.walk(tree) if isinstance(node, ast.Name)}
        for node in tree.body:
            doc = isinstance(node, ast.Expr) and isinstance(node.value, ast.Constant)
            behind = behind or not (doc or isinstance(node, (ast.Import, ast.ImportFrom)))
            if isinstance(node, ast.ImportFrom):
                if behind:
                    self.fault(path, node.lineno, "L2", "an import that is not at the top")
                self.check_import(path, node)
                for alias in node.names:
                    if alias.name not in used and node.module != "__future__" and path.stem != "__init__":
                        self.fault(path, node.lineno, "L16", f"{alias.name} is imported and not used")
        top = {id(node) for node in tree.body}
        for node in ast.walk(tree):
            if isinstance(node, (ast.Import, ast.ImportFrom)) and id(node) not in top:
                self.fault(path, node.lineno, "L2", "an import that is not at the top")
            if isinstance(node, ast.Import) and not (path.stem == "__main__" and ast.unparse(node) == "import sys"):
                self.fault(path, node.lineno, "L2", "an import of a module")

    def check_import(self, path, node):
        module = node.module or ""
        for alias in node.names:
            if node.level or alias.name == "*" or alias.asname:
                self.fault(path, node.lineno, "L2", "an import with a dot, a star or as")
            elif module in LIBRARY:
                if alias.name not in LIBRARY[module]:
                    self.fault(path, node.lineno, "L2", f"{module}.{alias.name}")
            elif module.split(".")[0] != self.package:
                self.fault(path, node.lineno, "L2", f"an import from {module}")
            elif module not in self.trees or alias.name not in defined_in(self.trees[module][1]):
                self.fault(path, node.lineno, "L16", f"{alias.name} is not defined in {module}")

    def check_rings(self):
        edges = {}
        for module, (_, tree) in self.trees.items():
            named = {node.module for node in tree.body if isinstance(node, ast.ImportFrom) and node.module}
            edges[module] = {name for name in named | {self.package} if name in self.trees and name != module}
        for module, (path, _) in self.trees.items():
            seen, queue = set(), list(edges[module])
            while queue:
                name = queue.pop()
                if name not in seen:
                    seen.add(name)
                    queue.extend(edges[name])
            if module in seen:
                self.fault(path, 1, "L16", "a ring of imports")

    def check_module_level(self, path, tree):
        bound = {}
        for place, node in enumerate(tree.body):
            names = []
            if isinstance(node, (ast.FunctionDef, ast.ClassDef)):
                names = [node.name]
            elif isinstance(node, ast.ImportFrom):
                names = [alias.asname or alias.name for alias in node.names]
            elif isinstance(node, ast.Assign) and len(node.targets) == 1 and isinstance(node.targets[0], ast.Name):
                names = [node.targets[0].id]
                if not all(isinstance(part, PLAIN_NODES) for part in ast.walk(node.value)):
                    self.fault(path, node.lineno, "L3", "no plain value")
                for part in ast.walk(node.value):
                    inner = [kid for kid in ast.iter_child_nodes(part) if isinstance(kid, (ast.List, ast.Dict))]
                    if isinstance(part, (ast.List, ast.Dict, ast.Tuple)) and inner:
                        self.fault(path, node.lineno, "L15", "a list or dict within another value")
            elif not (isinstance(node, ast.Expr) and isinstance(node.value, ast.Constant) and place == 0):
                if not (path.stem == "__main__" and isinstance(node, (ast.If, ast.Import))):
                    self.fault(path, node.lineno, "L3", "a statement at module level")
            for name in names:
                if name in bound:
                    self.fault(path, node.lineno, "L15", f"{name} is bound twice")
                bound[name] = node
        inner_classes = [node for node in ast.walk(tree) if isinstance(node, ast.ClassDef) and node not in tree.body]
        for node in inner_classes:
            self.fault(path, node.lineno, "L15", "a class that is not at module level")

    def check_bindings(self, path, tree):
        outer = {node.name for node in tree.body if isinstance(node, ast.ClassDef)}
        for node in tree.body:
            if isinstance(node, ast.ImportFrom):
                outer.update(alias.name for alias in node.names)
        methods = {id(part) for node in ast.walk(tree) if isinstance(node, ast.ClassDef) for part in node.body}
        for function in [node for node in ast.walk(tree) if isinstance(node, FUNCTIONS)]:
            for node in ast.walk(function):
                for name in bound_by(node):
                    nested = isinstance(node, FUNCTIONS) and node is not function
                    if name in outer and (nested or not isinstance(node, FUNCTIONS)):
                        self.fault(path, node.lineno, "L15", f"the local {name} is a class or an import of the file")
        for node in ast.walk(tree):
            barred = BUILTINS if id(node) not in methods else ALLOWED_BUILTINS | NO_VARIABLE
            for name in bound_by(node):
                if name in barred or name in NO_VARIABLE:
                    self.fault(path, node.lineno, "L15", f"{name} has the name of a builtin")

    def check_size(self, path, node):
        if isinstance(node, ast.FunctionDef):
            first = min([node.lineno] + [decorator.lineno for decorator in node.decorator_list])
            if node.end_lineno - first + 1 > SIZES["function"]:
                self.fault(path, node.lineno, "L10", f"{node.name} is too long")

    def check_names(self, path, node):
        for name in [*bound_by(node), *named_by(node)]:
            dunder = name in DUNDERS or name in ("__all__", "__version__", "__slots__", "__name__", "__class__")
            if not dunder and not re.fullmatch(r"_?[A-Za-z][A-Za-z0-9_]*|_", name):
                self.fault(path, node.lineno, "L12", f"the name {name}")
            if isinstance(node, ast.ClassDef) and name.startswith("_"):
                self.fault(path, node.lineno, "L12", f"the class {name}")
            if name.startswith(NO_BEGINNING) or re.sub(r"[0-9_]+$", "", name) in NO_STEM:
                self.fault(path, node.lineno, "L12", f"the name {name}")
            if name in NOWHERE:
                self.fault(path, node.lineno, "L17", f"the name {name}")
        if isinstance(node, ast.Name) and node.id == "_" and isinstance(node.ctx, ast.Load):
            self.fault(path, node.lineno, "L12", "_ is read")
        if isinstance(node, ast.Attribute) and isinstance(node.ctx, ast.Store) and node.attr in NO_ATTRIBUTE:
            self.fault(path, node.lineno, "L26", f"the attribute {node.attr}")

    def check_values(self, path, node):
        if isinstance(node, ast.Constant) and isinstance(node.value, (float, complex)):
            self.fault(path, node.lineno, "L7", "a float")
        if isinstance(node, (ast.BinOp, ast.AugAssign)) and isinstance(node.op, (ast.Div, ast.MatMult)):
            self.fault(path, node.lineno, "L7", "a / or @")
        if isinstance(node, ast.BinOp) and isinstance(node.op, ast.Pow) and isinstance(node.left, ast.Constant):
            if node.left.value == 2 and not isinstance(node.right, ast.Constant):
                self.fault(path, node.lineno, "L27", "2 ** n")
        if isinstance(node, ast.Constant) and isinstance(node.value, int) and len(str(node.value)) > SIZES["digits"]:
            self.fault(path, node.lineno, "L27", "a number too long")
        if isinstance(node, ast.Compare):
            sides = [node.left, *node.comparators]
            plain = [isinstance(side, ast.Constant) and side.value in (None, True, False) for side in sides]
            for place, operator in enumerate(node.ops):
                if isinstance(operator, (ast.Is, ast.IsNot)) and not (plain[place] or plain[place + 1]):
                    self.fault(path, node.lineno, "L20", "is without None, True or False")
        if isinstance(node, ast.Name) and isinstance(node.ctx, ast.Load) and node.id in BUILTINS - ALLOWED_BUILTINS:
            if node.id not in self.own and not (node.id == "print" and path.stem == "__main__"):
                self.fault(path, node.lineno, "L8", f"the builtin {node.id}")

    def check_statements(self, path, node):
        if isinstance(node, NO_NODE):
            self.fault(path, node.lineno, "L6", f"a statement {node.__class__.__name__}")
        if isinstance(node, ast.ExceptHandler) and node.type is None:
            self.fault(path, node.lineno, "L6", "an except without a class")
        if isinstance(node, ast.ClassDef) and (node.decorator_list or node.keywords):
            self.fault(path, node.lineno, "L5", "a class with a decorator or a keyword")
        if isinstance(node, ast.ClassDef):
            for part in node.body:
                if isinstance(part, ast.FunctionDef) and part.name.startswith("__") and part.name not in DUNDERS:
                    self.fault(path, part.lineno, "L5", f"the method {part.name}")
        if isinstance(node, ast.FunctionDef):
            for decorator in node.decorator_list:
                if ast.unparse(decorator) not in ("property", "staticmethod", "classmethod", f"{node.name}.setter"):
                    self.fault(path, node.lineno, "L4", "a decorator")
            if node.name == "__init__":
                for part in ast.walk(node):
                    if isinstance(part, ast.Return) and part.value is not None:
                        self.fault(path, part.lineno, "L28", "__init__ returns something")

    def check_calls(self, path, node):
        if not isinstance(node, ast.Call):
            return
        if isinstance(node.func, ast.Attribute) and node.func.attr not in METHODS | self.own | {"__init__"}:
            self.fault(path, node.lineno, "L25", f"the method {node.func.attr}")
        if isinstance(node.func, ast.Constant):
            self.fault(path, node.lineno, "L7", "a literal that is called")


def defined_in(tree):
    names = {node.name for node in tree.body if isinstance(node, (ast.FunctionDef, ast.ClassDef))}
    return names | {node.targets[0].id for node in tree.body
                    if isinstance(node, ast.Assign) and isinstance(node.targets[0], ast.Name)}


def bound_by(node):
    """Names of functions, classes, parameters and variables that the node itself binds."""
    if isinstance(node, (ast.FunctionDef, ast.ClassDef)):
        return [node.name]
    if isinstance(node, ast.arg):
        return [node.arg]
    if isinstance(node, ast.Name) and isinstance(node.ctx, ast.Store):
        return [node.id]
    if isinstance(node, (ast.ExceptHandler, ast.MatchAs, ast.MatchStar)) and node.name:
        return [node.name]
    return []


def named_by(node):
    """Other names that stand in the node: attributes, keywords, imports."""
    if isinstance(node, ast.Attribute):
        return [node.attr]
    if isinstance(node, ast.keyword) and node.arg:
        return [node.arg]
    if isinstance(node, ast.ImportFrom):
        return [alias.name for alias in node.names]
    return []


def faults_of(folder):
    """The faults of the package in this folder, each with its file, line and rule."""
    return Checker(folder).check()


if __name__ == "__main__":
    found = [fault for folder in sys.argv[1:] for fault in faults_of(folder)]
    for fault in found:
        print(fault)
    sys.exit(1 if found else 0)
