"""Classes, calls and loops over all files of a package: rules L4, L5, L6, L15, L18, L19, L22, L23 and L28.

Where a rule allows more than a small script can tell apart, this finds nothing.
"""

import ast

COMPARING = {"__eq__", "__lt__", "__le__", "__gt__", "__ge__", "__ne__"}
BINARY = {f"__{prefix}{name}__" for prefix in ("", "r") for name in (
    "add", "sub", "mul", "floordiv", "mod", "pow", "and", "or", "xor", "lshift", "rshift")}
UNARY = {"__neg__", "__pos__", "__invert__", "__abs__", "__bool__", "__len__", "__iter__", "__str__", "__repr__"}
ONE_MORE = COMPARING | BINARY | {"__contains__", "__getitem__"}
CHANGING = {"append", "clear", "extend", "insert", "pop", "remove", "reverse", "setdefault", "update", "sort", "add",
            "discard"}
CAUGHT = {"KeyError", "ZeroDivisionError", "StopIteration", "ValueError", "LookupError", "IndexError"}
DEFAULT_NODES = (ast.Constant, ast.Tuple, ast.UnaryOp, ast.BinOp, ast.Name, ast.expr_context, ast.operator,
                 ast.unaryop)
COPIES = {"list", "tuple", "sorted", "dict"}


def functions_in(tree):
    return [node for node in ast.walk(tree) if isinstance(node, ast.FunctionDef)]


def methods_in(kind):
    return [node for node in kind.body if isinstance(node, ast.FunctionDef)]


def is_property(function):
    return any(ast.unparse(decorator) == "property" for decorator in function.decorator_list)


def returns_of(function):
    return [node for node in ast.walk(function) if isinstance(node, ast.Return)]


def own_lists(function):
    """Local names that are assigned only lists or dicts that the function makes."""
    made, others = set(), set()
    for node in ast.walk(function):
        if isinstance(node, ast.Assign):
            copied = isinstance(node.value, ast.Call) and isinstance(node.value.func, ast.Name)
            fresh = isinstance(node.value, (ast.List, ast.ListComp)) or copied and node.value.func.id in COPIES
            for target in node.targets:
                if isinstance(target, ast.Name):
                    (made if fresh else others).add(target.id)
    return made - others


def changes_in(function):
    """Lines on which a function changes what it did not make itself."""
    own, lines = own_lists(function), []
    for node in ast.walk(function):
        targets = []
        if isinstance(node, (ast.Assign, ast.Delete)):
            targets = node.targets
        elif isinstance(node, (ast.AugAssign, ast.AnnAssign)):
            targets = [node.target]
        for target in [part for whole in targets for part in ast.walk(whole)]:
            if isinstance(target, ast.Attribute) and isinstance(target.ctx, (ast.Store, ast.Del)):
                lines.append(node.lineno)
            if isinstance(target, ast.Subscript) and isinstance(target.ctx, (ast.Store, ast.Del)):
                if not (isinstance(target.value, ast.Name) and target.value.id in own):
                    lines.append(node.lineno)
        if isinstance(node, ast.Call) and isinstance(node.func, ast.Attribute) and node.func.attr in CHANGING:
            if not (isinstance(node.func.value, ast.Name) and node.func.value.id in own):
                lines.append(node.lineno)
    return lines


def held_calls(function):
    """Lines on which a function calls one of its parameters or local names."""
    names = {argument.arg for argument in ast.walk(function.args) if isinstance(argument, ast.arg)}
    names |= {node.id for node in ast.walk(function) if isinstance(node, ast.Name) and isinstance(node.ctx, ast.Store)}
    return [node.lineno for node in ast.walk(function)
            if isinstance(node, ast.Call) and isinstance(node.func, ast.Name) and node.func.id in names]


class Package:
    """All files of a package: pairs (path, tree)."""

    def __init__(self, files):
        self.files = files
        self.classes = [(path, node) for path, tree in files for node in ast.walk(tree)
                        if isinstance(node, ast.ClassDef)]
        self.functions = {}
        for path, tree in files:
            for node in tree.body:
                if isinstance(node, ast.FunctionDef):
                    self.functions.setdefault(node.name, []).append((path, node))
        self.methods = {method.name for _, kind in self.classes for method in methods_in(kind)
                        if not is_property(method)}
        self.properties = {method.name for _, kind in self.classes for method in methods_in(kind)
                           if is_property(method)}
        self.stored = {node.attr for _, tree in files for node in ast.walk(tree)
                       if isinstance(node, ast.Attribute) and isinstance(node.ctx, ast.Store)}
        self.faults = []

    def fault(self, path, line, rule, what):
        self.faults.append((path, line, rule, what))

    def check(self):
        for path, kind in self.classes:
            self.check_class(path, kind)
        self.check_names()
        for path, tree in self.files:
            self.check_file(path, tree)
        return self.faults

    def check_class(self, path, kind):
        methods = {method.name: method for method in methods_in(kind)}
        if "__getitem__" in methods:
            told = methods.get("__iter__")
            raises = told and len(told.body) == 1 and isinstance(told.body[0], ast.Raise)
            if not raises or not ast.unparse(told.body[0]).startswith("raise TypeError("):
                self.fault(path, kind.lineno, "L5", "a __getitem__ without an __iter__ that raises TypeError")
            if "keys" in self.methods | self.stored:
                self.fault(path, kind.lineno, "L5", "a __getitem__ beside keys")
        for name, method in methods.items():
            arguments = method.args
            many = len(arguments.args)
            plain = not (arguments.vararg or arguments.kwarg or arguments.kwonlyargs or arguments.defaults)
            if name in ONE_MORE and not (plain and many == 2) or name in UNARY and not (plain and many == 1):
                self.fault(path, method.lineno, "L5", f"the parameters of {name}")
            if is_property(method) and not (plain and many == 1):
                self.fault(path, method.lineno, "L5", f"the parameters of the property {name}")
            if name in ONE_MORE | UNARY or is_property(method):
                self.check_quiet(path, method, {method.name})
            self.check_returns(path, method)

    def check_quiet(self, path, function, seen):
        """An operator or a property, and each function that it calls, changes nothing and calls nothing it holds."""
        for line in changes_in(function):
            self.fault(path, line, "L5", f"{function.name} changes something for an operator or a property")
        for line in held_calls(function):
            self.fault(path, line, "L5", f"{function.name} calls what it holds for an operator or a property")
        for node in ast.walk(function):
            if isinstance(node, ast.Call) and isinstance(node.func, ast.Name) and node.func.id not in seen:
                seen.add(node.func.id)
                for other, called in self.functions.get(node.func.id, []):
                    self.check_quiet(other, called, seen)

    def check_returns(self, path, method):
        for node in returns_of(method):
            text = ast.unparse(node)
            if method.name == "__len__" and not (text.startswith("return len(") or text[7:].isdigit()):
                self.fault(path, node.lineno, "L28", "__len__ returns something else than a len")

    def check_names(self):
        for path, kind in self.classes:
            own = {method.name for method in methods_in(kind)}
            stored = {node.attr for node in ast.walk(kind) if isinstance(node, ast.Attribute)
                      and isinstance(node.ctx, ast.Store) and ast.unparse(node.value) == "self"}
            for name in sorted(own & stored):
                self.fault(path, kind.lineno, "L18", f"{name} is a method and an attribute")
            if len(own) < len(methods_in(kind)):
                self.fault(path, kind.lineno, "L18", "a method that is defined twice")
            for name in sorted(own & self.properties & self.methods):
                self.fault(path, kind.lineno, "L5", f"{name} is a property and a method")
        known = self.methods | self.properties | self.stored
        for path, tree in self.files:
            for node in ast.walk(tree):
                if isinstance(node, ast.Attribute) and isinstance(node.ctx, ast.Load) and node.attr.startswith("_"):
                    if node.attr not in known and not node.attr.startswith("__"):
                        self.fault(path, node.lineno, "L18", f"the attribute {node.attr} that is never assigned")

    def check_file(self, path, tree):
        top = {target.id for node in tree.body if isinstance(node, ast.Assign) for target in node.targets
               if isinstance(target, ast.Name)}
        defined = {node.name for node in tree.body if isinstance(node, (ast.FunctionDef, ast.ClassDef))}
        imported = {alias.name for node in tree.body if isinstance(node, ast.ImportFrom) for alias in node.names}
        kinds = {kind.name for _, kind in self.classes}
        for node in ast.walk(tree):
            if isinstance(node, (ast.FunctionDef, ast.Lambda)):
                self.check_defaults(path, node)
            if isinstance(node, ast.Raise):
                self.check_raise(path, node)
            if isinstance(node, ast.ExceptHandler) and node.type is not None:
                parts = node.type.elts if isinstance(node.type, ast.Tuple) else [node.type]
                for part in parts:
                    if ast.unparse(part) not in kinds | CAUGHT:
                        self.fault(path, node.lineno, "L19", f"an except of {ast.unparse(part)}")
            if isinstance(node, ast.Call) and isinstance(node.func, ast.Name):
                self.check_call(path, node, node.func.id in defined | imported)
            if isinstance(node, ast.For):
                self.check_loop(path, node)
            self.check_kept(path, node, top | imported)

    def check_defaults(self, path, node):
        for default in [*node.args.defaults, *node.args.kw_defaults]:
            if default is not None and not all(isinstance(part, DEFAULT_NODES) for part in ast.walk(default)):
                self.fault(path, default.lineno, "L4", "a default value that is not plain")

    def check_raise(self, path, node):
        if node.exc is not None and not isinstance(node.exc, ast.Call):
            self.fault(path, node.lineno, "L19", "a raise that creates no error")
        elif node.exc is not None and not isinstance(node.exc.func, ast.Name):
            self.fault(path, node.lineno, "L19", "a raise of what is no class")

    def check_call(self, path, node, own):
        if node.func.id == "reversed" and any("__getitem__" in [method.name for method in methods_in(kind)]
                                              for _, kind in self.classes):
            given = node.args[0]
            named = isinstance(given, ast.Call) and isinstance(given.func, ast.Name) and given.func.id
            if named not in COPIES | {"range"} and not isinstance(given, (ast.List, ast.Tuple, ast.Constant)):
                self.fault(path, node.lineno, "L5", "reversed beside a __getitem__")
        told = self.functions.get(node.func.id, [])
        kinds = [method for _, kind in self.classes if kind.name == node.func.id
                 for method in methods_in(kind) if method.name == "__init__"]
        starred = any(isinstance(part, ast.Starred) for part in node.args) or any(not kw.arg for kw in node.keywords)
        if own and len(told) + len(kinds) == 1 and not starred:
            function = told[0][1] if told else kinds[0]
            names = [argument.arg for argument in function.args.args][0 if told else 1:]
            given = [*names[:len(node.args)], *[keyword.arg for keyword in node.keywords]]
            needed = names[:len(names) - len(function.args.defaults)]
            if len(node.args) > len(names) or not set(needed) <= set(given) or not set(given) <= set(names):
                self.fault(path, node.lineno, "L22", f"what {node.func.id} is passed")

    def check_loop(self, path, loop):
        """What is iterated over is not changed in the loop."""
        over = [loop.iter]
        if isinstance(loop.iter, ast.Call) and isinstance(loop.iter.func, ast.Name):
            over = loop.iter.args if loop.iter.func.id in ("enumerate", "zip", "reversed") else []
        elif isinstance(loop.iter, ast.Call) and isinstance(loop.iter.func, ast.Attribute):
            over = [loop.iter.func.value] if loop.iter.func.attr in ("items", "keys", "values") else []
        texts = {ast.unparse(part) for part in over}
        for node in [part for statement in loop.body for part in ast.walk(statement)]:
            changed = None
            if isinstance(node, ast.Subscript) and isinstance(node.ctx, (ast.Store, ast.Del)):
                changed = node.value
            if isinstance(node, ast.Call) and isinstance(node.func, ast.Attribute) and node.func.attr in CHANGING:
                changed = node.func.value
            if changed is not None and ast.unparse(changed) in texts:
                self.fault(path, node.lineno, "L23", "what a loop iterates over is changed in it")

    def check_kept(self, path, node, top):
        """Functions only read what stands at module level."""
        changed = None
        if isinstance(node, ast.Subscript) and isinstance(node.ctx, (ast.Store, ast.Del)):
            changed = node.value
        if isinstance(node, ast.Call) and isinstance(node.func, ast.Attribute) and node.func.attr in CHANGING:
            changed = node.func.value
        if isinstance(changed, ast.Name) and changed.id in top:
            self.fault(path, node.lineno, "L15", f"{changed.id} of the module is changed")


def class_faults(files):
    """Tuples (path, line, rule, what) over all files, pairs (path, tree), of a package."""
    return Package(files).check()
