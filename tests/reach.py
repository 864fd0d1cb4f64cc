"""What the equality, the texts, the lengths, the properties and the operators of the package's classes reach.

All that they reach changes nothing but what it made itself, and calls nothing that it is handed, that it holds, or
that it takes from a table. `faults` returns what breaks this, as far as a program can look it up.
"""

import ast
import builtins

STARTS = set(
    "__eq__ __ne__ __str__ __repr__ __len__ __lt__ __le__ __gt__ __ge__ __contains__ __getitem__ __invert__ __neg__ "
    "__pos__ __abs__ __bool__ __add__ __sub__ __mul__ __and__ __or__ __xor__".split())
CHANGERS = set("append extend insert pop remove clear reverse sort update setdefault add discard popitem".split())
MAKERS = set("list dict set sorted".split())


def functions_of(trees):
    """A dict from (file, class or None, name) to each function at module level and each method."""
    found = {}
    for file, tree in trees.items():
        for node in tree.body:
            if isinstance(node, ast.FunctionDef):
                found[(file, None, node.name)] = node
            if isinstance(node, ast.ClassDef):
                for method in node.body:
                    if isinstance(method, ast.FunctionDef):
                        found[(file, node.name, method.name)] = method
    return found


def is_property(function):
    """Whether a function is a property."""
    return any(isinstance(mark, ast.Name) and mark.id == "property" for mark in function.decorator_list)


def names_brought(tree):
    """A dict from each name that a file imports to the file that it comes from."""
    return {alias.name: node.module.split(".")[-1] for node in tree.body if isinstance(node, ast.ImportFrom)
            for alias in node.names}


def local_names(function):
    """The names of the parameters and of all variables of a function."""
    names = {argument.arg for argument in ast.walk(function.args) if isinstance(argument, ast.arg)}
    names |= {node.id for node in ast.walk(function) if isinstance(node, ast.Name) and not isinstance(node.ctx, ast.Load)}
    names |= {node.name for node in ast.walk(function) if isinstance(node, ast.ExceptHandler) and node.name}
    return names | {node.name for node in ast.walk(function) if isinstance(node, ast.FunctionDef) and node is not function}


def is_made(value):
    """Whether an expression makes a new list, dict or set."""
    if isinstance(value, ast.BinOp) and isinstance(value.op, ast.Mult):
        return isinstance(value.left, ast.List)
    if isinstance(value, ast.Call):
        return isinstance(value.func, ast.Name) and value.func.id in MAKERS
    return isinstance(value, (ast.List, ast.ListComp, ast.Dict, ast.DictComp))


def made_names(function):
    """The variables of a function that are assigned nothing but new lists, dicts and sets."""
    values = {}
    others = {argument.arg for argument in ast.walk(function.args) if isinstance(argument, ast.arg)}
    for node in ast.walk(function):
        if isinstance(node, ast.Assign):
            for target in node.targets:
                for name in [part.id for part in ast.walk(target) if isinstance(part, ast.Name)
                             and isinstance(part.ctx, ast.Store)]:
                    values.setdefault(name, []).append(node.value if isinstance(target, ast.Name) else None)
        if isinstance(node, (ast.For, ast.comprehension)):
            others |= {part.id for part in ast.walk(node.target) if isinstance(part, ast.Name)}
    return {name for name in values if name not in others and all(map(is_made, values[name]))}


class Reach:
    """All functions that are reached, and the faults in them."""

    def __init__(self, trees):
        self.trees = trees
        self.functions = functions_of(trees)
        self.brought = {file: names_brought(tree) for file, tree in trees.items()}
        self.classes = {node.name: file for file, tree in trees.items() for node in tree.body
                        if isinstance(node, ast.ClassDef)}
        self.attributes = {node.attr for tree in trees.values() for node in ast.walk(tree)
                           if isinstance(node, ast.Attribute) and isinstance(node.ctx, ast.Store)}
        self.properties = {name for (_, _, name), function in self.functions.items() if is_property(function)}
        self.reached = {}
        self.faults = []
        left = [key for key, function in self.functions.items()
                if key[1] is not None and (key[2] in STARTS or is_property(function))]
        while left:
            key = left.pop()
            if key not in self.reached:
                self.reached[key] = True
                left.extend(self.look(key))

    def fault(self, key, node, why):
        """Keep a fault."""
        self.faults.append((key, node.lineno, why))

    def look(self, key):
        """Return what a function reaches, and keep its faults."""
        function = self.functions[key]
        self.look_at_changes(key, function)
        found = self.look_at_names(key, function)
        for node in ast.walk(function):
            if isinstance(node, ast.Call):
                found.extend(self.called(key, function, node))
            if isinstance(node, ast.Attribute) and isinstance(node.ctx, ast.Load) and node.attr in self.properties:
                found.extend([other for other in self.functions if other[2] == node.attr])
        return found

    def called(self, key, function, node):
        """Return what a call reaches."""
        if isinstance(node.func, ast.Name):
            name = node.func.id
            if name in local_names(function):
                self.fault(key, node, f"calls the variable {name}")
                return []
            return self.named(key[0], name)
        if not isinstance(node.func, ast.Attribute):
            self.fault(key, node, "calls what is no name")
            return []
        if node.func.attr in self.attributes or node.func.attr == "index":
            self.fault(key, node, f"calls .{node.func.attr}")
        return [other for other in self.functions if other[1] is not None and other[2] == node.func.attr]

    def named(self, file, name):
        """Return the functions that are called by a name in a file."""
        source = self.brought[file].get(name, file)
        if name in self.classes:
            return [other for other in self.functions if other[1] == name and other[2] == "__init__"]
        return [other for other in self.functions if other == (source, None, name)]

    def look_at_names(self, key, function):
        """Keep a fault for each function or class that is handed on instead of called."""
        called = {id(node.func) for node in ast.walk(function) if isinstance(node, ast.Call)}
        asked = {id(part) for node in ast.walk(function)
                 if isinstance(node, ast.Call) and isinstance(node.func, ast.Name) and node.func.id == "isinstance"
                 for part in ast.walk(node)}
        caught = {id(part) for node in ast.walk(function) if isinstance(node, ast.ExceptHandler) and node.type
                  for part in ast.walk(node.type)}
        marks = {id(part) for mark in function.decorator_list for part in ast.walk(mark)}
        for node in ast.walk(function):
            if isinstance(node, ast.Name) and isinstance(node.ctx, ast.Load):
                known = self.named(key[0], node.id) or node.id in self.classes or callable(getattr(builtins, node.id, None))
                if known and id(node) not in called | asked | caught | marks and node.id not in local_names(function):
                    self.fault(key, node, f"hands on {node.id}")
        return []

    def look_at_changes(self, key, function):
        """Keep a fault for each change of what the function did not make itself."""
        made = made_names(function)
        for node in ast.walk(function):
            if isinstance(node, (ast.Yield, ast.YieldFrom, ast.Global, ast.Nonlocal, ast.Lambda)):
                self.fault(key, node, "is no plain function")
            if isinstance(node, (ast.Subscript, ast.Attribute)) and not isinstance(node.ctx, ast.Load):
                self.look_at_target(key, node, made)
            if isinstance(node, ast.AugAssign):
                literal = isinstance(node.value, ast.Constant) and isinstance(node.value.value, int)
                if not isinstance(node.target, ast.Name) or not literal:
                    self.fault(key, node, "changes by a sign")
            if isinstance(node, ast.Call) and isinstance(node.func, ast.Attribute) and node.func.attr in CHANGERS:
                owner = node.func.value
                if isinstance(owner, ast.Call) and isinstance(owner.func, ast.Attribute) and owner.func.attr == "setdefault":
                    owner = owner.func.value
                if not isinstance(owner, ast.Name) or owner.id not in made:
                    self.fault(key, node, f"changes by .{node.func.attr}")

    def look_at_target(self, key, node, made):
        """Keep a fault if an item or an attribute is assigned that is not the function's own."""
        owner = node.value
        if isinstance(node, ast.Subscript) and isinstance(owner, ast.Name) and owner.id in made:
            return
        if isinstance(node, ast.Attribute) and key[2] == "__init__" and isinstance(owner, ast.Name) and owner.id == "self":
            return
        self.fault(key, node, "assigns what it did not make")


def faults(trees):
    """The list of (where, line, what) of all that breaks the rule."""
    return Reach(trees).faults
