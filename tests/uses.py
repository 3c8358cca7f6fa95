"""How functions, builtins, sets and what is iterated at once are used: rules L5, L7, L22, L23, L24 and L25.

Where a rule allows more than a small script can tell apart, this finds nothing.
"""

import ast

KEYWORDS = {"sorted": {"key", "reverse"}, "min": {"key", "default"}, "max": {"key", "default"}, "sum": {"start"},
            "enumerate": {"start"}, "zip": {"strict"}}
AS_KEYS = {"len", "int", "str", "abs", "sum", "min", "max", "tuple"}
FUNCTIONS = {"len", "range", "enumerate", "zip", "min", "max", "sum", "abs", "sorted", "reversed", "isinstance", "ord",
             "repr", "any", "all", "divmod", "iter", "next", "map", "int", "str", "bool", "list", "tuple", "dict",
             "set", "frozenset", "bytes"}
KINDS = {"int", "str", "bool", "bytes", "list", "tuple", "dict"}
VIEWS = {"zip", "enumerate", "reversed", "range", "map"}
METHOD_VIEWS = {"items", "keys", "values"}
ITERATING = {"list", "tuple", "dict", "sorted", "sum", "any", "all", "enumerate", "zip", "min", "max"}
COMPARED = (ast.In, ast.NotIn, ast.Eq, ast.NotEq)
CALLED = (ast.Name, ast.Attribute, ast.Subscript)


def called(node):
    """The bare name that a call calls, or ""."""
    return node.func.id if isinstance(node, ast.Call) and isinstance(node.func, ast.Name) else ""


def is_join(node):
    return isinstance(node, ast.Call) and isinstance(node.func, ast.Attribute) and node.func.attr == "join"


def is_view(node):
    method = node.func.attr if isinstance(node, ast.Call) and isinstance(node.func, ast.Attribute) else ""
    return called(node) in VIEWS or method in METHOD_VIEWS and not node.args


def is_set(node):
    return isinstance(node, (ast.Set, ast.SetComp)) or called(node) == "set"


def compares(trees):
    """Whether a class of the package has an __eq__."""
    return any(isinstance(node, ast.FunctionDef) and node.name == "__eq__" for tree in trees for node in ast.walk(tree))


def iterated(node, parent):
    """Whether what the node gives is iterated on the spot, by a loop, a comprehension, a builtin or a join."""
    if isinstance(parent, (ast.For, ast.comprehension)):
        return parent.iter is node
    return is_join(parent) or called(parent) in ITERATING and node in parent.args


def kept(node, parent):
    """Whether it is assigned to one plain name."""
    return isinstance(parent, ast.Assign) and len(parent.targets) == 1 and isinstance(parent.targets[0], ast.Name)


def view_is_fine(node, parent):
    if isinstance(parent, ast.Compare):
        return node in parent.comparators and all(isinstance(sign, (ast.In, ast.NotIn)) for sign in parent.ops)
    if called(parent) in ("len", "iter") or called(parent) == "reversed" and called(node) == "range":
        return True
    if isinstance(parent, ast.Subscript) and called(node) == "range":
        return True
    unpacked = isinstance(parent, ast.Assign) and called(node) == "map"
    return iterated(node, parent) or kept(node, parent) or unpacked


def set_is_fine(node, parent):
    if isinstance(parent, ast.Compare):
        return all(isinstance(sign, COMPARED) for sign in parent.ops)
    if isinstance(parent, ast.BinOp):
        return is_set(parent.left) and is_set(parent.right)
    return called(parent) in ("sorted", "len") or kept(node, parent)


def generator_is_fine(parent, with_eq):
    if called(parent) in ("sorted", "sum", "min", "max", "any", "all"):
        return not with_eq
    return called(parent) in ("list", "tuple", "dict", "next") or is_join(parent)


def value_is_fine(node, parent):
    """Whether a builtin's name stands where it may: called, as a key, as a kind that is asked for."""
    if isinstance(parent, ast.Call) and parent.func is node:
        return True
    if isinstance(parent, ast.keyword):
        return parent.arg == "key" and node.id in AS_KEYS
    if called(parent) == "map" or isinstance(parent, (ast.arg, ast.AnnAssign, ast.FunctionDef, ast.Subscript)):
        return True
    return node.id in KINDS and (called(parent) == "isinstance" or isinstance(parent, ast.Tuple))


def use_faults(tree, with_eq):
    """Triples (line, rule, what) of a file; with_eq: whether a class of the package has an __eq__."""
    parents = {id(kid): node for node in ast.walk(tree) for kid in ast.iter_child_nodes(node)}
    faults = []
    for node in ast.walk(tree):
        parent = parents.get(id(node))
        if isinstance(node, ast.Call):
            if not isinstance(node.func, CALLED):
                faults.append((node.lineno, "L5", "a call of what is no name, attribute or item"))
            for keyword in node.keywords:
                if called(node) in FUNCTIONS and keyword.arg not in KEYWORDS.get(called(node), ()):
                    faults.append((node.lineno, "L22", f"the keyword {keyword.arg}"))
            if with_eq and isinstance(node.func, ast.Attribute) and node.func.attr == "sort":
                faults.append((node.lineno, "L25", "a sort beside an __eq__"))
        if is_view(node) and not view_is_fine(node, parent):
            faults.append((node.lineno, "L23", "what is not iterated at once"))
        if is_set(node) and not set_is_fine(node, parent):
            faults.append((node.lineno, "L24", "a set that is neither asked, sorted nor kept by a name"))
        if isinstance(node, ast.GeneratorExp) and not generator_is_fine(parent, with_eq):
            faults.append((node.lineno, "L7", "a generator expression"))
        if isinstance(node, ast.Name) and isinstance(node.ctx, ast.Load) and node.id in FUNCTIONS:
            if not value_is_fine(node, parent):
                faults.append((node.lineno, "L22", f"{node.id} as a value"))
    return faults
