"""Two rules of the language, as functions that tell the lines of a source that break them."""

import ast

WALKED = {"range", "zip", "enumerate", "reversed"}
VIEWS = {"items", "keys", "values"}
# What may take such a thing as its first argument.
TAKERS = {"list", "tuple", "dict", "sorted", "sum", "any", "all", "enumerate", "zip", "min", "max"}


def is_walked(node):
    """Whether a node is something that is to be walked on the spot."""
    if not isinstance(node, ast.Call):
        return False
    if isinstance(node.func, ast.Name):
        return node.func.id in WALKED
    return isinstance(node.func, ast.Attribute) and node.func.attr in VIEWS and not node.args


def is_range(node):
    return isinstance(node, ast.Call) and isinstance(node.func, ast.Name) and node.func.id == "range"


def is_view(node):
    return is_walked(node) and isinstance(node.func, ast.Attribute)


def allowed_places(function):
    """The places in a tree where something may be walked."""
    places = []
    for node in ast.walk(function):
        if isinstance(node, (ast.For, ast.comprehension)):
            places.append(node.iter)
        if isinstance(node, ast.Compare) and len(node.ops) == 1 and isinstance(node.ops[0], (ast.In, ast.NotIn)):
            places += [part for part in node.comparators if is_range(part) or is_view(part)]
        if isinstance(node, ast.Call) and node.args:
            places += places_in_call(node)
    return {id(place) for place in places}


def places_in_call(call):
    first = call.args[0]
    if isinstance(call.func, ast.Name) and call.func.id in TAKERS:
        return [first] if call.func.id not in ("min", "max") or len(call.args) == 1 else []
    if isinstance(call.func, ast.Name) and call.func.id == "len":
        return [first] if is_range(first) or is_view(first) else []
    if isinstance(call.func, ast.Name) and call.func.id == "reversed":
        return [first] if is_range(first) else []
    if isinstance(call.func, ast.Attribute) and call.func.attr == "join":
        return [first] if isinstance(call.func.value, ast.Constant) else []
    return []


def kept_ranges(function):
    """The names of the variables that keep a range, and nothing else."""
    kept = {}
    for node in ast.walk(function):
        if isinstance(node, ast.Assign) and len(node.targets) == 1 and isinstance(node.targets[0], ast.Name):
            kept.setdefault(node.targets[0].id, []).append(node.value)
    return {name: found[0] for name, found in kept.items() if len(found) == 1 and is_range(found[0])}


def walked_faults(source):
    """The lines of what is not walked on the spot, nor a kept range that is walked later."""
    lines = []
    for function in ast.walk(ast.parse(source)):
        if isinstance(function, ast.FunctionDef):
            kept = kept_ranges(function)
            allowed = allowed_places(function) | {id(node) for node in kept.values()}
            for node in ast.walk(function):
                if is_walked(node) and id(node) not in allowed:
                    lines.append(node.lineno)
                if isinstance(node, ast.Name) and isinstance(node.ctx, ast.Load) and node.id in kept:
                    if id(node) not in allowed and not is_measured(function, node):
                        lines.append(node.lineno)
    return sorted(set(lines))


def is_measured(function, name):
    """Whether a kept range stands in `len`, behind `in` or before an index."""
    for node in ast.walk(function):
        if isinstance(node, ast.Call) and isinstance(node.func, ast.Name) and node.func.id == "len":
            if name in node.args:
                return True
        if isinstance(node, ast.Compare) and name in node.comparators and isinstance(node.ops[0], (ast.In, ast.NotIn)):
            return True
        if isinstance(node, ast.Subscript) and node.value is name:
            return True
    return False


def star_faults(source):
    """The lines of stars that stand within the brackets of a subscript."""
    lines = []
    for node in ast.walk(ast.parse(source)):
        if isinstance(node, ast.Subscript):
            lines += [part.lineno for part in ast.walk(node.slice) if isinstance(part, ast.Starred)]
    return sorted(set(lines))


CHANGES = {
    "append", "clear", "extend", "insert", "pop", "remove", "reverse", "setdefault", "update", "sort", "add", "discard",
}
COMPREHENSIONS = (ast.ListComp, ast.DictComp, ast.SetComp)


def texts_in(node):
    """The names and attributes that stand in a node, as texts."""
    return {ast.unparse(part) for part in ast.walk(node) if isinstance(part, (ast.Name, ast.Attribute))}


def changed_in(node):
    """What a node changes, as texts, each with its line."""
    changed = []
    for part in ast.walk(node):
        if isinstance(part, ast.Call) and isinstance(part.func, ast.Attribute) and part.func.attr in CHANGES:
            changed.append((ast.unparse(part.func.value), part.lineno))
        if isinstance(part, ast.Call) and isinstance(part.func, ast.Name) and part.func.id.startswith("heap"):
            changed.append((ast.unparse(part.args[0]), part.lineno))
        targets = part.targets if isinstance(part, ast.Assign) else [part.target] if isinstance(part, ast.AugAssign) else []
        for target in targets:
            if isinstance(target, ast.Subscript):
                changed.append((ast.unparse(target.value), part.lineno))
            elif isinstance(part, ast.AugAssign):
                changed.append((ast.unparse(target), part.lineno))
    return changed


def loop_faults(source):
    """The lines in loops and comprehensions that change what these iterate over."""
    lines = []
    for node in ast.walk(ast.parse(source)):
        if isinstance(node, ast.For):
            texts = texts_in(node.iter)
            lines += [line for part in node.body + node.orelse for text, line in changed_in(part) if text in texts]
        if isinstance(node, COMPREHENSIONS):
            texts = set().union(*[texts_in(part.iter) for part in node.generators])
            lines += [line for text, line in changed_in(node) if text in texts]
    return sorted(set(lines))


def names_of_comprehension(node):
    names = [part.id for each in node.generators for part in ast.walk(each.target) if isinstance(part, ast.Name)]
    return set(names) - {"_"}


def nested_faults(source):
    """The lines of comprehensions within others whose variables have names that are assigned further out."""
    lines = []
    for function in ast.walk(ast.parse(source)):
        if isinstance(function, ast.FunctionDef):
            whole = [node for node in ast.walk(function) if isinstance(node, COMPREHENSIONS)]
            within = {id(part) for node in whole for each in node.generators for part in ast.walk(each.target)}
            outer = {argument.arg for argument in function.args.args}
            for node in ast.walk(function):
                if isinstance(node, ast.Name) and isinstance(node.ctx, ast.Store) and id(node) not in within:
                    outer.add(node.id)
            for node in whole:
                for part in ast.walk(node):
                    if part is not node and isinstance(part, COMPREHENSIONS):
                        if names_of_comprehension(part) & (outer | names_of_comprehension(node)):
                            lines.append(part.lineno)
    return sorted(set(lines))


def table_faults(source):
    """The lines in which a list or dict of the module level is more than read."""
    tree = ast.parse(source)
    parents = {id(part): node for node in ast.walk(tree) for part in ast.iter_child_nodes(node)}
    tables = {node.targets[0].id for node in tree.body if isinstance(node, ast.Assign) and isinstance(node.value, (ast.List, ast.Dict))}
    lines = []
    for node in ast.walk(tree):
        if isinstance(node, ast.Name) and node.id in tables and isinstance(node.ctx, ast.Load):
            above = parents[id(node)]
            read = isinstance(above, ast.Subscript) and above.value is node and isinstance(above.ctx, ast.Load)
            if not read and not isinstance(above, ast.Compare) and not (isinstance(above, ast.Attribute) and above.attr == "get"):
                lines.append(node.lineno)
    return lines


def set_faults(source):
    """The lines of sets that are not sorted, measured, compared or asked on the spot."""
    tree = ast.parse(source)
    parents = {id(part): node for node in ast.walk(tree) for part in ast.iter_child_nodes(node)}
    lines = []
    for node in ast.walk(tree):
        called = isinstance(node, ast.Call) and isinstance(node.func, ast.Name) and node.func.id == "set"
        if called or isinstance(node, (ast.Set, ast.SetComp)):
            above = parents[id(node)]
            taken = isinstance(above, ast.Call) and isinstance(above.func, ast.Name) and above.func.id in ("len", "sorted")
            if not taken and not isinstance(above, ast.Compare):
                lines.append(node.lineno)
    return lines
