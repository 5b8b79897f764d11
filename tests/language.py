"""Finds what breaks rules of the language in the files of the package, as far as the code alone shows it.

`language_faults(sources)` takes a dict from module names to sources, and returns a list of (rule, module, line, what).
"""

import ast
import builtins
import re

ALLOWED = set("""len range enumerate zip min max sum abs sorted reversed int str bool list tuple dict set isinstance ord
repr any all divmod iter next Exception ValueError TypeError KeyError IndexError LookupError ZeroDivisionError
ArithmeticError OverflowError RuntimeError NotImplementedError AttributeError StopIteration NotImplemented super property
staticmethod classmethod""".split())
BUILTIN_METHODS = set("""append clear copy count endswith extend find get index insert isalnum isalpha isdigit islower
isspace isupper items join keys ljust lower lstrip partition pop remove replace reverse rfind rjust rpartition rsplit
rstrip setdefault split splitlines startswith strip update upper values zfill bit_length sort add discard""".split())
CHANGING = {"append", "clear", "extend", "insert", "pop", "remove", "reverse", "setdefault", "update", "sort", "add",
            "discard"}
DUNDERS = set("""init eq repr str len enter exit call iter lt le gt ge ne add sub mul floordiv mod pow and or xor lshift
rshift radd rsub rmul rfloordiv rmod rand ror rxor rlshift rrshift iadd isub imul ifloordiv imod ipow iand ior ixor
ilshift irshift neg pos invert abs bool contains getitem setitem""".split())
MAY_CHANGE = {f"__{word}__" for word in """init enter exit call iter iadd isub imul ifloordiv imod ipow iand ior ixor
ilshift irshift setitem""".split()}
BARRED_ATTRIBUTES = set("""items keys values pop update append clear extend insert remove reverse setdefault sort args
encode decode hex fromhex format format_map mro""".split())
BARRED_NAMES = set("""register mro elements open input law version_info with_traceback add_note""".split())
BARRED_OWN = set("""attrgetter breakpoint builtins compile copyright credits delattr dir eval exec exit gc getattr globals
hasattr help id importlib license locals methodcaller os quit setattr type vars sys""".split())
BARRED_WORDS = set("""type typing typing_extensions enum Enum IntEnum StrEnum Flag IntFlag Generic Protocol ABC ABCMeta
namedtuple NamedTuple TypedDict TYPE_CHECKING abstractmethod""".split())
VIEWS = {"zip", "enumerate", "reversed", "range", "map"}
AT_ONCE = {"list", "tuple", "dict", "sorted", "sum", "any", "all", "enumerate", "zip", "min", "max", "len", "reversed"}
# `_` is there once a doctest has shown a value
BUILTINS = set(dir(builtins)) - {"_"}
FUNCTIONS = (ast.FunctionDef, ast.Lambda)
COMPREHENSIONS = (ast.ListComp, ast.SetComp, ast.DictComp, ast.GeneratorExp)


def with_parents(tree):
    for node in ast.walk(tree):
        for child in ast.iter_child_nodes(node):
            child.parent = node
    return tree


def function_of(node):
    """The function in which a node stands, or None."""
    node = getattr(node, "parent", None)
    while node is not None and not isinstance(node, ast.FunctionDef):
        node = getattr(node, "parent", None)
    return node


def class_of(node):
    parent = getattr(node, "parent", None)
    return parent if isinstance(parent, ast.ClassDef) else None


def called(node):
    """The bare name or the attribute that a call calls, or None."""
    if isinstance(node, ast.Call):
        if isinstance(node.func, ast.Name):
            return node.func.id
        if isinstance(node.func, ast.Attribute):
            return node.func.attr
    return None


def is_builtin_call(node, names):
    return isinstance(node, ast.Call) and isinstance(node.func, ast.Name) and node.func.id in names


def bound_names(node):
    """The names of parameters and local variables that a function binds."""
    found = set()
    for part in ast.walk(node):
        if isinstance(part, ast.arg):
            found.add(part.arg)
        if isinstance(part, ast.Name) and isinstance(part.ctx, (ast.Store, ast.Del)):
            found.add(part.id)
        if isinstance(part, ast.ExceptHandler) and part.name:
            found.add(part.name)
    return found


def is_plain(node, functions=()):
    """Whether a value at module level is plain; functions that are defined above may stand in lists, tuples and dicts."""
    if isinstance(node, ast.Constant):
        return node.value is None or isinstance(node.value, (int, str, bytes, bool))
    if isinstance(node, (ast.List, ast.Tuple, ast.Dict)):
        parts = node.keys + node.values if isinstance(node, ast.Dict) else node.elts
        return all(part is not None and (is_plain(part, functions) or isinstance(part, ast.Name) and part.id in functions)
                   for part in parts)
    return isinstance(node, ast.UnaryOp) and isinstance(node.op, ast.USub) and is_plain(node.operand)


def has_inner(node):
    """Whether a list, tuple or dict contains a list or dict."""
    return any(isinstance(part, (ast.List, ast.Dict)) for part in ast.walk(node) if part is not node)


class Package:
    def __init__(self, sources):
        self.faults = []
        self.trees = {name: with_parents(ast.parse(source)) for name, source in sources.items()}
        self.sources = sources
        self.functions = {}
        self.methods = {}
        self.properties = {}
        self.setters = {}
        self.attributes = {}
        self.classes = {}
        self.generators = {}
        for module, tree in self.trees.items():
            for node in ast.walk(tree):
                self.collect(module, node)

    def collect(self, module, node):
        if isinstance(node, ast.ClassDef):
            self.classes[node.name] = node
        if isinstance(node, ast.FunctionDef):
            marks = [ast.unparse(mark) for mark in node.decorator_list]
            owner = class_of(node)
            if any(mark.endswith(".setter") for mark in marks):
                self.setters.setdefault(node.name, set()).add(owner.name)
            elif "property" in marks:
                self.properties.setdefault(node.name, {})[owner.name] = node
            elif owner is not None:
                self.methods.setdefault(node.name, []).append(node)
            elif isinstance(node.parent, ast.Module):
                self.functions[node.name] = node
            inner = [part for part in ast.walk(node) if isinstance(part, (ast.Yield, ast.YieldFrom))]
            if inner and function_of(inner[0]) is node:
                self.generators.setdefault(node.name, []).append(node)
        if isinstance(node, ast.Attribute) and isinstance(node.ctx, ast.Store):
            self.attributes.setdefault(node.attr, []).append((module, node))

    def note(self, rule, module, node, what=""):
        line = node if isinstance(node, int) else node.lineno
        self.faults.append((rule, module, line, what))

    def check(self):
        for module, tree in self.trees.items():
            self.check_module(module, tree)
            self.check_words(module)
            self.check_lambdas(module, tree)
            for node in ast.walk(tree):
                self.check_names(module, node)
                self.check_expression(module, node)
                self.check_call(module, node)
                self.check_statement(module, node)
                if isinstance(node, ast.FunctionDef):
                    self.check_function(module, node)
                if isinstance(node, ast.ClassDef):
                    self.check_class(module, node)
        self.check_attributes()
        self.check_cycles()
        self.check_pure()
        return self.faults

    def check_module(self, module, tree):
        bound = set()
        for node in tree.body:
            if isinstance(node, ast.Expr) and isinstance(node.value, ast.Constant):
                continue
            if isinstance(node, ast.ImportFrom):
                self.check_import(module, node)
                names = [alias.name for alias in node.names]
            elif isinstance(node, (ast.FunctionDef, ast.ClassDef)):
                names = [node.name]
            elif isinstance(node, ast.Assign) and len(node.targets) == 1 and isinstance(node.targets[0], ast.Name):
                names = [node.targets[0].id]
                if not is_plain(node.value, {name for name in bound if name in self.functions}) or has_inner(node.value):
                    self.note("L3", module, node, names[0])
            else:
                self.note("L3", module, node)
                names = []
            for name in names:
                if name in bound:
                    self.note("L15", module, node, name)
                bound.add(name)
        own = {node.name for node in tree.body if isinstance(node, ast.ClassDef)}
        own |= {alias.name for node in tree.body if isinstance(node, ast.ImportFrom) for alias in node.names}
        tables = {node.targets[0].id for node in tree.body if isinstance(node, ast.Assign)
                  and isinstance(node.value, (ast.List, ast.Dict))}
        for node in ast.walk(tree):
            if isinstance(node, FUNCTIONS):
                for name in bound_names(node) & (own | tables | BUILTINS):
                    self.note("L15", module, node, name)
            if isinstance(node, ast.Name) and node.id in tables and isinstance(node.ctx, ast.Load):
                parent = node.parent
                if isinstance(parent, ast.Call) and node in parent.args and not is_builtin_call(parent, AT_ONCE):
                    self.note("L15", module, node, node.id)
                if isinstance(parent, (ast.Assign, ast.Return, ast.Starred)):
                    self.note("L15", module, node, node.id)

    def check_import(self, module, node):
        if node.level or not (node.module or "").startswith("keptbits.") or any(part.asname for part in node.names):
            self.note("L2", module, node, ast.unparse(node))
            return
        other = self.trees.get(node.module.split(".")[1])
        if other is None:
            self.note("L16", module, node, node.module)
            return
        there = set()
        for part in other.body:
            if isinstance(part, (ast.FunctionDef, ast.ClassDef)):
                there.add(part.name)
            if isinstance(part, ast.Assign):
                there.add(part.targets[0].id)
        used = {part.id for part in ast.walk(self.trees[module]) if isinstance(part, ast.Name)}
        for alias in node.names:
            if alias.name not in there:
                self.note("L16", module, node, alias.name)
            if alias.name not in used:
                self.note("unused", module, node, alias.name)

    def check_cycles(self):
        imports = {module: {node.module.split(".")[1] for node in tree.body if isinstance(node, ast.ImportFrom)
                            and (node.module or "").startswith("keptbits.")} for module, tree in self.trees.items()}
        for module in imports:
            found, waiting = set(), list(imports[module])
            while waiting:
                name = waiting.pop()
                if name not in found:
                    found.add(name)
                    waiting.extend(imports.get(name, ()))
            if module in found:
                self.note("L16", module, 1, "imports itself through others")

    def check_words(self, module):
        tree = self.trees[module]
        docs = set()
        for node in ast.walk(tree):
            if isinstance(node, (ast.Module, ast.ClassDef, ast.FunctionDef)) and node.body:
                first = node.body[0]
                if isinstance(first, ast.Expr) and isinstance(first.value, ast.Constant):
                    docs.add(id(first.value))
        for node in ast.walk(tree):
            if isinstance(node, ast.Constant) and isinstance(node.value, str):
                text = node.value
                if "%" in text or text.endswith(("._", ".__")) or re.fullmatch("__.*__", text, re.S):
                    self.note("L27", module, node, text)
                words = set(re.findall("[A-Za-z_]+", text))
                if id(node) not in docs and words & (BARRED_WORDS - {"type"}):
                    self.note("L17", module, node, text)
        for word in ("dataclass", "overload", "contextmanager", "_wall", "(type)", "Meta", "metaclass="):
            if word in self.sources[module]:
                self.note("L17", module, 1, word)

    def check_names(self, module, node):
        names = []
        if isinstance(node, (ast.FunctionDef, ast.ClassDef)):
            names = [node.name]
            if isinstance(node, ast.FunctionDef) and class_of(node) is None and node.name in BUILTINS:
                self.note("L15", module, node, node.name)
        elif isinstance(node, ast.arg):
            names = [node.arg]
        elif isinstance(node, ast.Name) and isinstance(node.ctx, ast.Store):
            names = [node.id]
        elif isinstance(node, ast.keyword) and node.arg:
            names = [node.arg]
        elif isinstance(node, ast.Attribute):
            names = [node.attr]
        for name in names:
            if name in BARRED_NAMES or name in BARRED_WORDS:
                self.note("L17", module, node, name)
            if name in BARRED_OWN and not isinstance(node, ast.Attribute):
                self.note("L17", module, node, name)
            if name.startswith("__") and name[2:-2] not in DUNDERS | {"class", "name"}:
                self.note("L8", module, node, name)
            if re.match("_(pe|dcw|enum|cm|twin_re|lay|law|stub)_|_sre|_wall|_(cold|tuplegetter|outside|record|"
                        "written_out|member_names)[0-9_]*$", name):
                self.note("L12", module, node, name)

    def check_expression(self, module, node):
        if isinstance(node, ast.Constant) and isinstance(node.value, (float, complex)):
            self.note("L7", module, node)
        if isinstance(node, ast.BinOp) and isinstance(node.op, (ast.Div, ast.MatMult)):
            self.note("L7", module, node)
        if isinstance(node, ast.BinOp) and isinstance(node.op, ast.Pow) and not isinstance(node.right, ast.Constant):
            self.note("L27", module, node)
        if isinstance(node, ast.Compare):
            for op, side in zip(node.ops, node.comparators):
                if isinstance(op, (ast.Is, ast.IsNot)) and not isinstance(side, ast.Constant):
                    self.note("L20", module, node)
        if isinstance(node, ast.GeneratorExp) and called(node.parent) not in ("list", "tuple", "dict", "join"):
            self.note("L7", module, node)
        if isinstance(node, (ast.Set, ast.SetComp)) or is_builtin_call(node, {"set"}):
            self.check_set(module, node)
        if is_builtin_call(node, VIEWS) or called(node) in ("items", "keys", "values") and not node.args:
            self.check_view(module, node)
        if isinstance(node, ast.Starred) and isinstance(node.ctx, ast.Load):
            if isinstance(node.parent, ast.Call) and not isinstance(node.value, (ast.Name, ast.Attribute, ast.List)):
                self.note("L7", module, node)
        if isinstance(node, ast.Name) and isinstance(node.ctx, ast.Load):
            if node.id in BUILTINS - ALLOWED and not isinstance(node.parent, ast.ExceptHandler):
                self.note("L8", module, node, node.id)
        if isinstance(node, (ast.NamedExpr, ast.Await)):
            self.note("L7", module, node)

    def check_set(self, module, node):
        parent = node.parent
        while isinstance(parent, ast.BinOp):
            parent = parent.parent
        fine = is_builtin_call(parent, {"sorted", "len"}) and not parent.keywords
        fine = fine or isinstance(parent, ast.Compare)
        if isinstance(parent, ast.Assign) and isinstance(parent.targets[0], ast.Name):
            fine = function_of(node) is not None
        if not fine:
            self.note("L24", module, node)

    def check_view(self, module, node):
        parent = node.parent
        fine = is_builtin_call(parent, AT_ONCE) or called(parent) == "join"
        fine = fine or isinstance(parent, (ast.For, ast.comprehension))
        if isinstance(parent, ast.Compare) and node in parent.comparators:
            fine = isinstance(parent.ops[0], (ast.In, ast.NotIn))
        if not fine:
            self.note("L23", module, node)

    def check_call(self, module, node):
        if not isinstance(node, ast.Call):
            return
        if isinstance(node.func, ast.Name):
            keywords = {"sorted": {"key", "reverse"}, "min": {"key", "default"}, "max": {"key", "default"},
                        "sum": {"start"}, "enumerate": {"start"}, "zip": {"strict"}}
            if node.func.id in ALLOWED:
                wrong = {part.arg for part in node.keywords} - keywords.get(node.func.id, set())
                if wrong:
                    self.note("L22", module, node, node.func.id)
        elif isinstance(node.func, ast.Attribute):
            name = node.func.attr
            if name not in self.methods and name not in BUILTIN_METHODS:
                self.note("L25", module, node, name)
            if name in BUILTIN_METHODS and node.keywords:
                self.note("L25", module, node, name)
        else:
            self.note("L3", module, node, "a call of no name")
        if called(node) in self.generators:
            parent = node.parent
            fine = called(parent) in ("list", "tuple", "dict", "enumerate", "zip", "join")
            if not fine and not isinstance(parent, (ast.For, ast.comprehension, ast.YieldFrom)):
                self.note("L23", module, node, called(node))

    def check_statement(self, module, node):
        barred = (ast.Global, ast.AsyncFunctionDef, ast.AsyncFor, ast.AsyncWith, ast.Import, ast.AnnAssign)
        if isinstance(node, barred):
            self.note("L6", module, node)
        if isinstance(node, ast.Raise) and node.exc is not None:
            if called(node.exc) is None or not isinstance(node.exc.func, ast.Name):
                self.note("L19", module, node)
            elif node.exc.func.id not in self.classes and node.exc.func.id not in BUILTINS:
                self.note("L19", module, node)
        if isinstance(node, ast.ExceptHandler):
            names = [ast.unparse(part) for part in getattr(node.type, "elts", [node.type])] if node.type else ["none"]
            if not all(name in self.classes or name in ("KeyError", "ZeroDivisionError") for name in names):
                self.note("L19", module, node)
        if isinstance(node, ast.For) or isinstance(node, COMPREHENSIONS):
            self.check_loop(module, node)

    def check_loop(self, module, node):
        """What a loop walks is not changed in it, also not under another name of the same function."""
        heads = [node.iter] if isinstance(node, ast.For) else [part.iter for part in node.generators]
        walked = set()
        for head in heads:
            if is_builtin_call(head, {"enumerate", "zip", "reversed"}) or called(head) in ("items", "keys", "values"):
                walked |= {ast.unparse(part) for part in head.args}
                walked |= {ast.unparse(head.func.value)} if isinstance(head.func, ast.Attribute) else set()
            else:
                walked.add(ast.unparse(head))
        owner = function_of(node)
        for part in ast.walk(owner) if owner is not None else ():
            if isinstance(part, ast.Assign) and isinstance(part.targets[0], ast.Name):
                names = {part.targets[0].id, ast.unparse(part.value)}
                if isinstance(part.value, ast.Name) and names & walked:
                    walked |= names
        rows = node.body if isinstance(node, ast.For) else [node]
        for row in rows:
            for part in ast.walk(row):
                changed = None
                if called(part) in CHANGING and isinstance(part.func, ast.Attribute):
                    changed = part.func.value
                if isinstance(part, ast.Subscript) and isinstance(part.ctx, (ast.Store, ast.Del)):
                    changed = part.value
                if changed is not None and ast.unparse(changed) in walked:
                    self.note("L23", module, part, ast.unparse(changed))

    def check_lambdas(self, module, tree):
        """Two lambdas whose parameters have the same names do not stand on one line."""
        seen = set()
        for node in ast.walk(tree):
            if isinstance(node, ast.Lambda):
                place = (node.lineno, tuple(part.arg for part in node.args.args))
                if place in seen:
                    self.note("L13", module, node)
                seen.add(place)

    def check_function(self, module, node):
        for mark in node.decorator_list:
            text = ast.unparse(mark)
            if class_of(node) is None or not (text in ("property", "staticmethod", "classmethod")
                                              or text == f"{node.name}.setter"):
                self.note("L4", module, node, text)
        for default in node.args.defaults + [part for part in node.args.kw_defaults if part is not None]:
            if not is_plain(default) or isinstance(default, (ast.List, ast.Dict)):
                self.note("L4", module, node)
        if node.name.startswith("__") and (class_of(node) is None or node.name[2:-2] not in DUNDERS):
            self.note("L5", module, node, node.name)
        if node.name in ("__str__", "__repr__", "__len__"):
            self.check_returns(module, node)
        if node.name in self.generators:
            whole = self.methods.get(node.name, []) + [self.functions[name] for name in self.functions
                                                       if name == node.name]
            if len(whole) != len(self.generators[node.name]):
                self.note("L23", module, node, node.name)
            if node.name in BUILTIN_METHODS or node.decorator_list:
                self.note("L23", module, node, node.name)
        for part in ast.walk(node):
            if isinstance(part, ast.Try):
                self.check_finally(module, part)

    def check_returns(self, module, node):
        if not isinstance(node.body[-1], ast.Return):
            self.note("L28", module, node, node.name)
        for part in ast.walk(node):
            if isinstance(part, ast.Return):
                value = part.value
                fine = isinstance(value, (ast.Constant, ast.JoinedStr)) or is_builtin_call(value, {"str", "repr"})
                if called(value) == "join" and isinstance(value.func.value, ast.Constant):
                    fine = True
                if node.name == "__len__":
                    fine = isinstance(value, ast.Constant) or is_builtin_call(value, {"len"})
                if not fine:
                    self.note("L28", module, part, node.name)

    def check_finally(self, module, node):
        def is_simple(part):
            if isinstance(part, (ast.Name, ast.Constant)):
                return True
            return isinstance(part, ast.Attribute) and is_simple(part.value)

        def check_row(row):
            if isinstance(row, ast.If) and isinstance(row.test, ast.Compare) and len(row.test.ops) == 1:
                fine = isinstance(row.test.ops[0], (ast.Is, ast.IsNot)) and is_simple(row.test.left)
                return fine and all(check_row(part) for part in row.body + row.orelse)
            return isinstance(row, ast.Assign) and all(is_simple(part) for part in [*row.targets, row.value])

        for row in node.finalbody:
            if not check_row(row):
                self.note("L6", module, row)

    def check_class(self, module, node):
        names = [part.name for part in node.body if isinstance(part, ast.FunctionDef)]
        marked = [part for part in node.body if isinstance(part, ast.FunctionDef)
                  and any(ast.unparse(mark).endswith(".setter") for mark in part.decorator_list)]
        if len(names) - len(marked) != len(set(names)):
            self.note("L18", module, node, "a method twice")
        if "__getitem__" in names and "__iter__" not in names:
            self.note("L5", module, node, "__iter__")
        if node.decorator_list or node.keywords:
            self.note("L5", module, node)
        for part in node.body:
            plain = isinstance(part, ast.Expr) and isinstance(part.value, ast.Constant)
            value = isinstance(part, ast.Assign) and is_plain(part.value)
            if not (plain or value or isinstance(part, ast.FunctionDef)):
                self.note("L5", module, part)

    def check_attributes(self):
        values = {part.targets[0].id for node in self.classes.values() for part in node.body
                  if isinstance(part, ast.Assign)}
        for name, places in self.attributes.items():
            for module, node in places:
                if name in BARRED_ATTRIBUTES:
                    self.note("L26", module, node, name)
                if name in self.methods or name in values:
                    self.note("L18", module, node, name)
                if name in self.properties and set(self.properties[name]) != self.setters.get(name, set()):
                    self.note("L5", module, node, name)
        for module, tree in self.trees.items():
            for node in ast.walk(tree):
                if isinstance(node, ast.Attribute) and isinstance(node.ctx, ast.Load):
                    known = (self.attributes, self.methods, self.properties, values, BUILTIN_METHODS)
                    if not any(node.attr in names for names in known) and node.attr[:2] != "__" \
                            and not isinstance(node.parent, ast.FunctionDef):
                        self.note("L18", module, node, node.attr)
        for name in self.properties:
            if name in self.methods or name in values or name in BUILTIN_METHODS:
                self.note("L5", "", 1, name)

    def pure_functions(self):
        """What operators, comparisons and properties run, and all that they call, by their names."""
        waiting = [node for name, nodes in self.methods.items() for node in nodes
                   if name.startswith("__") and name not in MAY_CHANGE]
        waiting += [node for nodes in self.properties.values() for node in nodes.values()]
        found = []
        while waiting:
            node = waiting.pop()
            if node in found:
                continue
            found.append(node)
            for part in ast.walk(node):
                name = called(part)
                if name is None:
                    continue
                if isinstance(part.func, ast.Name) and name in self.functions:
                    waiting.append(self.functions[name])
                if isinstance(part.func, ast.Name) and name in self.classes:
                    waiting += [row for row in self.methods.get("__init__", []) if class_of(row).name == name]
                if isinstance(part.func, ast.Attribute) and not name.startswith("__"):
                    waiting += self.methods.get(name, [])
        return found

    def check_pure(self):
        modules = {id(node): module for module, tree in self.trees.items() for node in ast.walk(tree)}
        for node in self.pure_functions():
            module = modules[id(node)]
            made = {part.targets[0].id for part in ast.walk(node) if isinstance(part, ast.Assign)
                    and isinstance(part.targets[0], ast.Name)
                    and (isinstance(part.value, (ast.List, ast.Dict, ast.ListComp, ast.DictComp))
                         or is_builtin_call(part.value, {"list", "dict", "set", "sorted"}))}
            parameters = {part.arg for part in ast.walk(node.args) if isinstance(part, ast.arg)}
            for part in ast.walk(node):
                if isinstance(part, ast.Attribute) and isinstance(part.ctx, ast.Store) and node.name != "__init__":
                    self.note("L5 pure", module, part, part.attr)
                if isinstance(part, ast.Subscript) and isinstance(part.ctx, (ast.Store, ast.Del)):
                    if ast.unparse(part.value) not in made:
                        self.note("L5 pure", module, part, ast.unparse(part))
                if called(part) in CHANGING and isinstance(part.func, ast.Attribute):
                    target = part.func.value
                    target = target.value if isinstance(target, ast.Subscript) else target
                    if ast.unparse(target) not in made:
                        self.note("L5 pure", module, part, ast.unparse(part))
                if isinstance(part, ast.AugAssign):
                    self.note("L5 pure", module, part, ast.unparse(part))
                if isinstance(part, ast.Call) and isinstance(part.func, ast.Name) and part.func.id in parameters:
                    if part.func.id != "cls":
                        self.note("L5 pure", module, part, part.func.id)
                # by its name, such a call may be one of what an object holds
                if isinstance(part, ast.Call) and isinstance(part.func, ast.Attribute):
                    if part.func.attr in self.attributes:
                        self.note("L5 pure", module, part, part.func.attr)


def language_faults(sources):
    return Package(sources).check()
