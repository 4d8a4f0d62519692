"""Rule L23 of the language: ranges, zips and views of dicts are iterated on the spot, not passed on.

Each file of the package is read as a tree; what a rule cannot see here is not judged.
"""

import ast
import unittest
from pathlib import Path

PACKAGE = Path(__file__).resolve().parent.parent / "idleclaims"
LAZY = ("range", "zip", "enumerate", "reversed")
VIEWS = ("items", "keys", "values")
TAKERS = ("list", "tuple", "dict", "sorted", "sum", "any", "all", "enumerate", "zip", "bytes", "min", "max")


def is_lazy(node):
    """Does this call give a range, a zip, an enumerate, a reversed or a view of a dict?"""
    if not isinstance(node, ast.Call):
        return False
    if isinstance(node.func, ast.Name):
        return node.func.id in LAZY
    return isinstance(node.func, ast.Attribute) and node.func.attr in VIEWS and not node.args


def is_range(node):
    return isinstance(node, ast.Call) and isinstance(node.func, ast.Name) and node.func.id == "range"


def is_called(call, name):
    return isinstance(call, ast.Call) and isinstance(call.func, ast.Name) and call.func.id == name


def is_iterated(node, parent, ranged):
    """Is the node iterated at once by what it stands in? ranged tells that it is a range."""
    if isinstance(parent, (ast.For, ast.comprehension)):
        return parent.iter is node
    if isinstance(parent, ast.Compare):
        return ranged and node is not parent.left and isinstance(parent.ops[0], (ast.In, ast.NotIn))
    if not isinstance(parent, ast.Call):
        return False
    if isinstance(parent.func, ast.Attribute):
        return parent.func.attr == "join" and isinstance(parent.func.value, ast.Constant)
    if ranged and (is_called(parent, "len") or is_called(parent, "reversed")):
        return True
    if is_called(parent, "zip"):
        return True
    return any(is_called(parent, name) for name in TAKERS) and parent.args[0] is node


def kept_rows(function, parents, node):
    """The rows in which a local variable that keeps the node is not iterated at once."""
    target = parents[node].targets[0]
    ranged = is_range(node)
    if len(parents[node].targets) > 1 or not isinstance(target, ast.Name):
        return [node.lineno]
    names = [n for n in ast.walk(function) if isinstance(n, ast.Name) and n.id == target.id and n is not target]
    indexed = [n for n in names if isinstance(parents[n], ast.Subscript) and parents[n].value is n and ranged]
    return [n.lineno for n in names if n not in indexed and not is_iterated(n, parents[n], ranged)]


def wrong_rows(source):
    """The rows of the source in which something is passed on, returned or stored that should not be."""
    tree = ast.parse(source)
    parents = {child: node for node in ast.walk(tree) for child in ast.iter_child_nodes(node)}
    found = []
    for node in filter(is_lazy, ast.walk(tree)):
        parent = parents[node]
        if isinstance(parent, ast.Assign):
            function = parent
            while not isinstance(function, ast.FunctionDef):
                function = parents[function]
            found += kept_rows(function, parents, node)
        elif not is_iterated(node, parent, is_range(node)):
            found.append(node.lineno)
    return sorted(found)


class IteratedAtOnceTest(unittest.TestCase):
    def test_the_package(self):
        for path in sorted(PACKAGE.glob("*.py")):
            self.assertEqual(wrong_rows(path.read_text()), [], path.name)

    def test_what_is_found(self):
        wrong = (
            "first(asking, range(3))", "return range(3)", "return zip(xs, ys)", "self.rows = enumerate(xs)",
            "rows = [range(3)]", "both = range(3)\n    first(both)", "both = range(3)\n    return both",
            "first(d.items())", "return d.keys()", "rows = zip(xs, ys)\n    return rows", "len(zip(xs, ys))",
            "one = two = range(3)", "xs.extend(range(3))", "sorted(xs, key=range(3))",
            "views = d.values()\n    f(views)",
        )
        for text in wrong:
            self.assertNotEqual(wrong_rows(f"def f(self, xs, ys, d):\n    {text}\n"), [], text)

    def test_what_may_stand(self):
        right = (
            "first(asking, list(range(3)))", "return tuple(range(3))", "return [x for x in range(3)]",
            "for k, x in enumerate(xs):\n        pass", "return dict(zip(xs, ys))", "return sorted(d.items())",
            "both = range(3)\n    return [k for k in both if k in both]", "return 2 in range(3)",
            "return list(reversed(range(3)))", "return '-'.join(d.keys())", "many = range(3)\n    return many[0]",
        )
        for text in right:
            self.assertEqual(wrong_rows(f"def f(self, xs, ys, d):\n    {text}\n"), [], text)
