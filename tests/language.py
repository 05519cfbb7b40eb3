"""A check of the rules of LANGUAGE.md that can be seen in the source text of the package.

faults(files) takes the source texts by their file names and gives a list of triples (rule, file, line).
The rules that need the whole flow of the program, such as what a value is at run time, are not checked.
"""

import ast
import builtins
import io
import re
import tokenize

PACKAGE = "millbrook"
LIBRARY = {
    "heapq": {"heappush", "heappop", "heapify", "heapreplace", "heappushpop"},
    "math": {"gcd", "lcm", "isqrt", "comb", "perm", "factorial"},
    "itertools": {"product", "combinations", "permutations", "chain", "accumulate", "pairwise", "islice",
                  "zip_longest"},
    "collections": {"defaultdict"},
}
# A doctest leaves the last value that it showed among the builtins, under the name _.
NAMES_OF_BUILTINS = set(dir(builtins)) - {"_"}
BUILTINS = set(
    "len range enumerate zip min max sum abs sorted reversed int str bool bytes list tuple dict set frozenset "
    "isinstance ord repr any all divmod pow getattr hasattr setattr iter next map super Exception ValueError "
    "TypeError KeyError IndexError LookupError ZeroDivisionError ArithmeticError OverflowError RuntimeError "
    "NotImplementedError AttributeError StopIteration NotImplemented property staticmethod classmethod".split())
DUNDERS = set(
    "init eq repr str len enter exit call iter lt le gt ge ne add sub mul floordiv mod pow and or xor lshift "
    "rshift radd rsub rmul rfloordiv rmod rand ror rxor rlshift rrshift iadd isub imul ifloordiv imod ipow iand "
    "ior ixor ilshift irshift neg pos invert abs bool contains getitem setitem".split())
METHODS = set(
    "append clear copy count endswith extend find get index insert isalnum isalpha isdigit islower isspace "
    "isupper items join keys ljust lower lstrip partition pop remove replace reverse rfind rjust rpartition "
    "rsplit rstrip setdefault split splitlines startswith strip update upper values zfill bit_length title "
    "capitalize swapcase casefold center expandtabs removeprefix removesuffix rindex isascii isdecimal isnumeric "
    "istitle isidentifier isprintable translate encode decode hex add discard sort format from_iterable "
    "maketrans".split())
OWN_NAMES_BARRED = set(dir(str)) | set(dir(int)) | set(dir(list)) | set(dir(dict)) | set(dir(set)) | set(dir(bytes))
METHOD_NAMES_FREE = set(
    "add discard append clear copy count endswith extend find get index insert isalnum isalpha isdigit islower "
    "isspace isupper items join keys ljust lower lstrip partition pop remove replace reverse rfind rjust "
    "rpartition rsplit rstrip setdefault split splitlines startswith strip update upper values zfill".split())
ATTRIBUTES_FREE = set("count index title find get join lower upper split strip copy add".split())
UNUSED = set("register mro elements open input law version_info with_traceback add_note".split())
UNUSED_NAMES = set(
    "attrgetter breakpoint builtins compile copyright credits delattr dir eval exec exit gc globals help id "
    "importlib license locals methodcaller os quit type vars sys".split())
UNUSED_WORDS = set(
    "type typing typing_extensions enum Enum IntEnum StrEnum Flag IntFlag Generic Protocol ABC ABCMeta namedtuple "
    "NamedTuple TypedDict TYPE_CHECKING abstractmethod".split())
ODD_PREFIXES = ("_wall", "_pe_", "_dcw_", "_enum_", "_cm_", "_twin_re_", "_lay_", "_law_", "_stub_", "_sre",
                "_WallAttr")
ODD_NAMES = ("_cold", "_tuplegetter", "_outside", "_record", "_written_out", "_member_names")
AT_ONCE = set("list tuple dict sorted sum any all enumerate zip bytes min max".split())
VIEWS = ("items", "keys", "values")
MODIFYING = ("append", "clear", "extend", "insert", "pop", "remove", "reverse", "setdefault", "update", "sort")
KEYWORDS = {"sorted": {"key", "reverse"}, "min": {"key", "default"}, "max": {"key", "default"}, "sum": {"start"},
            "enumerate": {"start"}, "zip": {"strict"}}
CATCHABLE = {"KeyError", "ZeroDivisionError", "StopIteration", "ValueError", "LookupError", "IndexError"}
LOOPS = (ast.For, ast.comprehension)
FUNCTIONS = (ast.FunctionDef, ast.Lambda)


class Source:
    """One file: its text, its tree with the parents of all nodes, and the names that it defines."""

    def __init__(self, name, text):
        self.name, self.text = name, text
        self.tree = ast.parse(text)
        self.nodes = list(ast.walk(self.tree))
        self.parent = {child: node for node in self.nodes for child in ast.iter_child_nodes(node)}
        self.functions = [node for node in self.nodes if isinstance(node, ast.FunctionDef)]
        self.classes = [node for node in self.nodes if isinstance(node, ast.ClassDef)]
        self.imports = [node for node in self.nodes if isinstance(node, (ast.Import, ast.ImportFrom))]
        self.docstrings = [
            node.body[0].value for node in [self.tree, *self.functions, *self.classes]
            if node.body and isinstance(node.body[0], ast.Expr) and is_text(node.body[0].value)]
        self.defined = [node.name for node in self.tree.body if isinstance(node, (ast.FunctionDef, ast.ClassDef))]
        self.defined += [target.id for node in self.tree.body if isinstance(node, ast.Assign)
                         for target in node.targets if isinstance(target, ast.Name)]

    def of(self, *kinds):
        """The nodes of these kinds."""
        return [node for node in self.nodes if isinstance(node, kinds)]

    def imported(self):
        """The names that the file imports."""
        return [alias.asname or alias.name for node in self.imports for alias in node.names]

    def above(self, node, *kinds):
        """The nearest node above that is of one of the kinds, or None."""
        while node in self.parent:
            node = self.parent[node]
            if isinstance(node, kinds):
                return node
        return None

    def bound(self):
        """All names that are bound in functions, with their nodes."""
        names = [(node.id, node) for node in self.of(ast.Name) if isinstance(node.ctx, ast.Store)]
        names = [(name, node) for name, node in names if self.above(node, *FUNCTIONS)]
        names += [(node.arg, node) for node in self.of(ast.arg)]
        names += [(node.name, node) for node in self.of(ast.ExceptHandler) if node.name]
        return names + [(node.name, node) for node in self.functions if self.above(node, ast.FunctionDef)]

    def names(self):
        """All names that the file uses for anything, with their nodes."""
        found = self.bound() + [(node.id, node) for node in self.of(ast.Name)]
        found += [(node.name, node) for node in self.functions + self.classes]
        found += [(node.attr, node) for node in self.of(ast.Attribute)]
        found += [(alias.name.split(".")[-1], node) for node in self.imports for alias in node.names]
        return found + [(node.arg, node) for node in self.of(ast.keyword) if node.arg]


def is_text(node):
    """Tells whether the node is a literal string."""
    return isinstance(node, ast.Constant) and isinstance(node.value, str)


def is_call(node, *names):
    """Tells whether the node calls one of the functions by its bare name."""
    return isinstance(node, ast.Call) and isinstance(node.func, ast.Name) and node.func.id in names


def is_plain(node, names=()):
    """Tells whether the value at module level or of a default is plain."""
    if isinstance(node, ast.Constant):
        return node.value is not ...
    if isinstance(node, ast.Name):
        return node.id in names
    if isinstance(node, (ast.Tuple, ast.List)):
        return all(is_plain(item, names) for item in node.elts)
    if isinstance(node, ast.Dict):
        return all(item is not None and is_plain(item, names) for item in node.keys + node.values)
    if isinstance(node, ast.BinOp):
        return is_plain(node.left, names) and is_plain(node.right, names)
    return isinstance(node, ast.UnaryOp) and is_plain(node.operand, names)


def rule_L1(source, files):
    if not re.fullmatch(r"[a-z0-9_]+\.py", source.name):
        yield source.tree


def rule_L2(source, files):
    top = True
    for node in source.tree.body:
        if isinstance(node, (ast.Import, ast.ImportFrom)):
            if not top:
                yield node
        elif not (isinstance(node, ast.Expr) and node.value in source.docstrings):
            top = False
    for node in source.imports:
        if isinstance(node, ast.Import) or source.above(node, ast.stmt):
            yield node
        elif node.level or any(alias.asname or alias.name == "*" for alias in node.names):
            yield node
        elif node.module in LIBRARY:
            if not {alias.name for alias in node.names} <= LIBRARY[node.module]:
                yield node
        elif not node.module.startswith(PACKAGE + ".") and node.module != "__future__":
            yield node
    library = {alias.name for node in source.imports if isinstance(node, ast.ImportFrom) and node.module in LIBRARY
               for alias in node.names}
    for name, node in source.names():
        if name in library and isinstance(node, ast.Name):
            call = source.parent[node]
            if not isinstance(call, (ast.Call, ast.Attribute)) or getattr(call, "func", node) is not node:
                yield node
            elif isinstance(call, ast.Call) and call.keywords and name != "zip_longest":
                yield node


def rule_L3(source, files):
    seen = set(source.imported())
    for node in source.tree.body:
        if isinstance(node, ast.Assign):
            if len(node.targets) > 1 or not isinstance(node.targets[0], ast.Name) or not is_plain(node.value, seen):
                yield node
            else:
                seen.add(node.targets[0].id)
        elif isinstance(node, (ast.FunctionDef, ast.ClassDef)):
            seen.add(node.name)
        elif not isinstance(node, (ast.Import, ast.ImportFrom)):
            if not (isinstance(node, ast.Expr) and node.value in source.docstrings) and source.name != "__main__.py":
                yield node


def rule_L4(source, files):
    for node in source.functions:
        in_class = isinstance(source.parent[node], ast.ClassDef)
        for decorator in node.decorator_list:
            plain = isinstance(decorator, ast.Name) and decorator.id in ("property", "staticmethod", "classmethod")
            setter = isinstance(decorator, ast.Attribute) and decorator.attr == "setter"
            if not in_class or not (plain or setter) or len(node.decorator_list) > 1:
                yield decorator
    for node in source.of(ast.arguments):
        for default in node.defaults + [item for item in node.kw_defaults if item]:
            if not is_plain(default, source.defined + source.imported()) or isinstance(default, (ast.List, ast.Dict)):
                yield default


def called_name(node):
    """The name of the function, class or method that the node calls, or None."""
    return getattr(node.func, "id", getattr(node.func, "attr", None)) if isinstance(node, ast.Call) else None


def stored_attributes(files):
    """The names of all attributes that some file assigns."""
    return {node.attr for file in files.values() for node in file.of(ast.Attribute)
            if isinstance(node.ctx, ast.Store)}


def silent_functions(files):
    """The functions that an operator, a property, an __eq__ and the like run, through all that they call.

    Calls are followed by their names alone, and a class that is called runs its __init__.
    """
    made = {}
    for file in files.values():
        for node in file.functions:
            made.setdefault(node.name, []).append(node)
        for owner in file.classes:
            made.setdefault(owner.name, []).extend(
                node for node in owner.body if getattr(node, "name", None) == "__init__")
    queue = [node for file in files.values() for node in file.functions if is_silent(file, node)]
    for node in queue:
        for call in ast.walk(node):
            queue += [found for found in made.get(called_name(call), []) if found not in queue]
    return queue


def is_silent(source, node):
    """Tells whether the function is an operator, a property, an __eq__ or the like."""
    word = node.name.strip("_")
    in_place = word in ("iadd", "isub", "imul", "ifloordiv", "imod", "ipow", "iand", "ior", "ixor", "ilshift", "irshift")
    loud = in_place or word in ("init", "call", "enter", "exit", "iter", "setitem")
    operator = node.name.startswith("__") and word in DUNDERS and not loud
    return operator or any(getattr(decorator, "id", "") == "property" for decorator in node.decorator_list)


def names_made(node):
    """The local names of a function that are only ever assigned a new list, dict or set, or a slice."""
    made, other = set(), {argument.arg for argument in ast.walk(node.args) if isinstance(argument, ast.arg)}
    for at in ast.walk(node):
        if isinstance(at, ast.Assign) and len(at.targets) == 1 and isinstance(at.targets[0], ast.Name):
            new = isinstance(at.value, (ast.List, ast.Dict, ast.Set, ast.ListComp, ast.DictComp, ast.SetComp))
            new = new or is_call(at.value, "list", "dict", "set", "sorted")
            (made if new else other).add(at.targets[0].id)
        elif isinstance(at, (ast.For, ast.comprehension)):
            other |= {name.id for name in ast.walk(at.target) if isinstance(name, ast.Name)}
    return made - other


def objects_made(node, own):
    """The local names of a function that are assigned once, by a call of an own class."""
    assigned = [at for at in ast.walk(node) if isinstance(at, ast.Name) and isinstance(at.ctx, ast.Store)]
    names = [at.id for at in assigned]
    made = [at.targets[0].id for at in ast.walk(node) if isinstance(at, ast.Assign) and is_call(at.value, *own)
            and isinstance(at.targets[0], ast.Name)]
    return {name for name in made if names.count(name) == 1}


def loud_nodes(node, stored, own):
    """What a function does that an operator must not run: changes, and calls of what it is passed or holds.

    It may assign the attributes of an object that it creates.
    """
    local = {at.id for at in ast.walk(node) if isinstance(at, ast.Name) and isinstance(at.ctx, ast.Store)}
    local |= {argument.arg for argument in ast.walk(node.args) if isinstance(argument, ast.arg)}
    made = names_made(node)
    for at in ast.walk(node):
        if isinstance(at, ast.Call) and isinstance(at.func, ast.Attribute):
            if at.func.attr in stored:
                yield at
            if at.func.attr in MODIFYING + ("add", "discard") and getattr(at.func.value, "id", None) not in made:
                yield at
        elif isinstance(at, ast.Call) and getattr(at.func, "id", None) in local - {"cls"}:
            yield at
        elif isinstance(at, ast.Attribute) and not isinstance(at.ctx, ast.Load) and node.name != "__init__":
            if getattr(at.value, "id", None) not in objects_made(node, own):
                yield at
        elif isinstance(at, ast.Subscript) and not isinstance(at.ctx, ast.Load):
            if getattr(at.value, "id", None) not in made:
                yield at


def rule_L5(source, files):
    stored = stored_attributes(files)
    own = [node.name for file in files.values() for node in file.classes]
    for node in silent_functions(files):
        if node in source.functions:
            yield from loud_nodes(node, stored, own)
    for owner in source.classes:
        if owner.decorator_list or owner.keywords or any(not isinstance(base, ast.Name) for base in owner.bases):
            yield owner
        for node in owner.body:
            if isinstance(node, ast.Assign):
                if not isinstance(node.targets[0], ast.Name) or not is_plain(node.value):
                    yield node
            elif not isinstance(node, ast.FunctionDef):
                if not (isinstance(node, ast.Expr) and node.value in source.docstrings):
                    yield node
            elif node.name.startswith("__") and node.name.strip("_") not in DUNDERS:
                yield node
    for node in source.of(ast.Attribute):
        if node.attr.startswith("__") and node.attr not in ("__init__", "__class__", "__name__"):
            yield node


def rule_L6(source, files):
    yield from source.of(ast.Global, ast.AsyncFunctionDef, ast.AsyncFor, ast.AsyncWith, ast.Await)
    for node in source.of(ast.ExceptHandler):
        if node.type is None:
            yield node
    for node in source.of(ast.Yield, ast.YieldFrom):
        if not isinstance(source.parent[node], ast.Expr):
            yield node
    for node in source.of(ast.Delete):
        if any(isinstance(target, (ast.Attribute, ast.Tuple, ast.List)) for target in node.targets):
            yield node


def rule_L7(source, files):
    for node in source.of(ast.Constant):
        if isinstance(node.value, (float, complex)) or node.value is ...:
            yield node
    yield from source.of(ast.Div, ast.MatMult)
    for node in source.of(ast.GeneratorExp):
        # House has an __eq__: these take a list.
        if not is_call(source.parent[node], "list", "tuple", "dict"):
            yield source.parent[node]
    for node in source.of(ast.Call):
        if is_call(node, "bytes") or getattr(node.func, "attr", "") in ("to_bytes", "fromhex"):
            yield node
    for node in source.of(ast.ListComp, ast.DictComp, ast.SetComp):
        if not source.above(node, *FUNCTIONS) or len(node.generators) > 6:
            yield node


def rule_L8(source, files):
    known = set(source.defined) | set(source.imported()) | BUILTINS | {name for name, _ in source.bound()}
    if source.name == "__main__.py":
        known |= {"print", "__name__"}
    for node in source.of(ast.Name):
        if isinstance(node.ctx, ast.Load) and node.id not in known:
            yield node
    for name, node in source.names():
        dunder = name.startswith("__") and name.endswith("__") and name.strip("_") in DUNDERS
        if name.startswith("__") and not dunder and name not in ("__class__", "__name__", "__all__", "__version__"):
            yield node


def rule_L9(source, files):
    if source.name != "__main__.py":
        for node in source.of(ast.Name):
            if node.id in ("print", "sys", "open", "input"):
                yield node
        for node in source.imports:
            modules = [getattr(node, "module", None), *[alias.name for alias in node.names]]
            if {"sys", "time", "os", "random"} & set(modules):
                yield node


def rule_L10(source, files):
    lines = source.text.split("\n")
    if len(lines) - 1 > 399:
        yield source.tree
    for at, line in enumerate(lines, 1):
        if len(line) > 120 or "\t" in line:
            yield at
    for node in source.functions:
        if node.end_lineno - node.lineno + 1 > 40:
            yield node


def rule_L11(source, files):
    for node in source.of(*LOOPS):
        if isinstance(node.iter, (ast.Set, ast.SetComp)) or is_call(node.iter, "set", "frozenset"):
            yield node.iter
    for node in source.of(ast.Attribute):
        if node.attr == "args":
            yield node


def rule_L12(source, files):
    for name, node in source.names():
        if not re.fullmatch(r"_|_?[A-Za-z][A-Za-z0-9_]*|__[a-z]+__", name):
            yield node
        elif name.startswith(ODD_PREFIXES) or re.sub(r"[0-9_]*$", "", name) in ODD_NAMES:
            yield node
    for node in source.of(ast.Name):
        if node.id == "_" and isinstance(node.ctx, ast.Load):
            yield node
    for node in source.classes:
        if node.name.startswith("_"):
            yield node


def rule_L13(source, files):
    for node in source.of(ast.Set):
        numbers = [item for item in node.elts if isinstance(getattr(item, "value", None), int)]
        if len(numbers) > 2 and not isinstance(source.parent[node], ast.Compare):
            yield node
    lambdas = [(node.lineno, ast.unparse(node.args)) for node in source.of(ast.Lambda)]
    for place in lambdas:
        if lambdas.count(place) > 1:
            yield place[0]


def rule_L14(source, files):
    for at, line in enumerate(source.text.split("\n"), 1):
        if any(not " " <= sign <= "~" for sign in line):
            yield at
    stem = source.name.removesuffix(".py")
    if stem != "__init__" and stem != "__main__":
        barred = ("test", "tests", "testing", "site", "conftest", "sitecustomize", "usercustomize")
        if stem in barred or stem.startswith(("law_", "test_")) or stem in NAMES_OF_BUILTINS or stem in LIBRARY:
            yield source.tree
    if "__init__.py" not in files:
        yield source.tree


def rule_L15(source, files):
    names = source.defined + source.imported()
    for node in source.tree.body:
        for name in [getattr(node, "name", None)] + [getattr(at, "id", None) for at in getattr(node, "targets", [])]:
            if name is not None and names.count(name) > 1:
                yield node
    taken = {node.name for node in source.classes} | set(source.imported())
    for name, node in source.bound():
        if name in taken or name in NAMES_OF_BUILTINS:
            yield node
    for node in source.tree.body:
        if isinstance(node, (ast.FunctionDef, ast.ClassDef)) and node.name in NAMES_OF_BUILTINS:
            yield node
    yield from [node for node in source.classes if source.parent[node] is not source.tree]


def rule_L16(source, files):
    for node in source.imports:
        file = (getattr(node, "module", "") or "").removeprefix(PACKAGE + ".") + ".py"
        if file in files and any(alias.name not in files[file].defined for alias in node.names):
            yield node
        if (getattr(node, "module", "") or "").startswith(PACKAGE) and file not in files:
            yield node
    reached, queue = set(), [source.name]
    for name in queue:
        for node in files[name].imports:
            file = (getattr(node, "module", "") or "").removeprefix(PACKAGE + ".") + ".py"
            if file == source.name:
                yield source.tree
            elif file in files and file not in reached:
                reached.add(file)
                queue.append(file)


def rule_L17(source, files):
    for name, node in source.names():
        if name in UNUSED or re.fullmatch(r"(f|tb|co|gi|cr|ag)_[a-z]+", name):
            yield node
        if name in UNUSED_NAMES and not isinstance(node, (ast.Attribute, ast.keyword)) and source.name != "__main__.py":
            yield node
    skipped = {(node.lineno, node.col_offset) for node in source.docstrings}
    for token in tokenize.generate_tokens(io.StringIO(source.text).readline):
        if token.type in (tokenize.NAME, tokenize.STRING) and token.start not in skipped:
            words = set(re.findall(r"[A-Za-z_]+", token.string))
            found = words & UNUSED_WORDS - ({"type"} if token.type == tokenize.STRING else set())
            if found or re.search("dataclass|overload|contextmanager", token.string):
                yield token.start[0]


def rule_L18(source, files):
    own = {node.name for file in files.values() for node in file.classes}
    for node in source.of(ast.Name):
        if node.id in own and isinstance(node.ctx, ast.Load):
            parent = source.parent[node]
            called = isinstance(parent, ast.Call) and (parent.func is node or is_call(parent, "isinstance"))
            around = source.parent[parent] if isinstance(parent, ast.Tuple) else None
            tuples = is_call(around, "isinstance") or isinstance(around, ast.ExceptHandler)
            if not called and not tuples and not isinstance(
                    parent, (ast.ClassDef, ast.Attribute, ast.ExceptHandler, ast.Raise)):
                yield node
    for owner in source.classes:
        methods = [node.name for node in owner.body if isinstance(node, ast.FunctionDef) and not any(
            isinstance(decorator, ast.Attribute) for decorator in node.decorator_list)]
        stored = {node.attr for node in ast.walk(owner) if isinstance(node, ast.Attribute)
                  and isinstance(node.ctx, ast.Store) and ast.unparse(node.value) == "self"}
        setters = {node.name for node in owner.body if isinstance(node, ast.FunctionDef) and node.decorator_list}
        if len(set(methods)) < len(methods) or set(methods) & stored - setters:
            yield owner
    for node in source.of(ast.Attribute):
        if isinstance(node.ctx, ast.Store) and not isinstance(node.value, ast.Name):
            if not isinstance(node.value, ast.Attribute):
                yield node


def rule_L19(source, files):
    own = {node.name for file in files.values() for node in file.classes}
    for node in source.of(ast.Raise):
        if node.exc is not None:
            if not isinstance(node.exc, ast.Call) or not isinstance(node.exc.func, ast.Name):
                yield node
            elif node.exc.func.id not in own | BUILTINS:
                yield node
        elif not source.above(node, ast.ExceptHandler):
            yield node
    for node in source.of(ast.ExceptHandler):
        kinds = node.type.elts if isinstance(node.type, ast.Tuple) else [node.type]
        if not kinds or any(getattr(kind, "id", None) not in own | CATCHABLE for kind in kinds):
            yield node


def rule_L20(source, files):
    for node in source.of(ast.Compare):
        sides = [node.left, *node.comparators]
        for at, sign in enumerate(node.ops):
            told = [ast.unparse(side) in ("None", "True", "False", "self") for side in sides[at:at + 2]]
            if isinstance(sign, (ast.Is, ast.IsNot)) and not any(told):
                yield node


def rule_L21(source, files):
    yield from source.of(ast.AnnAssign)
    yield from [node for node in source.of(ast.arg) if node.annotation]
    yield from [node for node in source.functions if node.returns]


def rule_L22(source, files):
    for node in source.of(ast.Call):
        if isinstance(node.func, ast.Name) and node.func.id in NAMES_OF_BUILTINS:
            if {word.arg for word in node.keywords} - KEYWORDS.get(node.func.id, set()):
                yield node
    for node in source.of(ast.Name):
        if node.id in ("len", "sorted", "min", "max", "sum", "zip", "enumerate", "range", "isinstance"):
            parent = source.parent[node]
            key = isinstance(parent, ast.keyword) and parent.arg == "key"
            if not key and not (isinstance(parent, ast.Call) and parent.func is node):
                yield node


def is_used_at_once(source, node):
    """Tells whether the call of zip, range, a generator and the like stands where it is iterated on the spot."""
    parent = source.parent[node]
    if isinstance(parent, LOOPS):
        return parent.iter is node
    if is_call(node, "range") and is_call(parent, "reversed", "len", "combinations", "permutations", "product"):
        return True
    joined = isinstance(parent, ast.Call) and getattr(parent.func, "attr", "") == "join"
    ranged = is_call(node, "range") and isinstance(parent, ast.Compare)
    return joined or ranged or is_call(parent, *AT_ONCE) or isinstance(parent, (ast.Assign, ast.YieldFrom))


def walked_by(loop):
    """The source text of what a loop iterates over, without enumerate, items and the like."""
    if is_call(loop.iter, "enumerate", "reversed", "zip"):
        return ast.unparse(loop.iter.args[0])
    if isinstance(loop.iter, ast.Call) and getattr(loop.iter.func, "attr", "") in VIEWS:
        return ast.unparse(loop.iter.func.value)
    return ast.unparse(loop.iter)


def rule_L23(source, files):
    generators = {node.name for file in files.values() for node in file.functions
                  if any(isinstance(at, (ast.Yield, ast.YieldFrom)) for at in ast.walk(node))}
    for node in source.of(ast.Call):
        view = isinstance(node.func, ast.Attribute) and node.func.attr in VIEWS
        if view or is_call(node, "zip", "enumerate", "reversed", "range", "map", *generators):
            if not is_used_at_once(source, node):
                yield node
    for loop in source.of(ast.For):
        walked = walked_by(loop)
        for node in ast.walk(ast.Module(loop.body, [])):
            stored = isinstance(node, ast.Subscript) and not isinstance(node.ctx, ast.Load)
            called = isinstance(node, ast.Attribute) and node.attr in MODIFYING
            if (stored or called) and ast.unparse(node.value) == walked:
                yield node


def rule_L24(source, files):
    for node in source.of(ast.Call, ast.Set, ast.SetComp):
        if not isinstance(node, ast.Call) or is_call(node, "set", "frozenset"):
            parent = source.parent[node]
            while isinstance(parent, ast.BinOp):
                parent = source.parent[parent]
            stored = isinstance(parent, ast.Assign) and isinstance(parent.targets[0], ast.Name)
            if is_call(node, "frozenset") or not (
                    stored or is_call(parent, "sorted", "len") or isinstance(parent, ast.Compare)):
                yield node


def rule_L25(source, files):
    own = {node.name for file in files.values() for node in file.functions}
    for node in source.of(ast.Call):
        if isinstance(node.func, ast.Attribute):
            if node.func.attr not in own | METHODS:
                yield node
            elif node.func.attr not in own and node.keywords and node.func.attr != "sort":
                yield node


def rule_L26(source, files):
    for owner in source.classes:
        for node in ast.walk(owner):
            if isinstance(node, ast.FunctionDef) and not node.name.startswith("__"):
                if node.name in OWN_NAMES_BARRED - METHOD_NAMES_FREE:
                    yield node
            if isinstance(node, ast.Attribute) and isinstance(node.ctx, ast.Store):
                if node.attr in (OWN_NAMES_BARRED | {"args"}) - ATTRIBUTES_FREE:
                    yield node


def rule_L27(source, files):
    for node in source.of(ast.BinOp):
        if isinstance(node.op, ast.Pow):
            if not isinstance(node.right, ast.Constant) or not 0 <= node.right.value <= 64:
                yield node
    for node in source.of(ast.Constant):
        if isinstance(node.value, str):
            if "%" in node.value or re.fullmatch(r"__.*__", node.value) or node.value.endswith(("._", ".__")):
                yield node
        elif isinstance(node.value, int) and len(str(node.value)) > 900:
            yield node
    for token in tokenize.generate_tokens(io.StringIO(source.text).readline):
        if token.type == tokenize.STRING and re.search(r"""\\[^n\\t'"]""", token.string):
            yield token.start[0]
    yield from [node for node in source.of(ast.Name) if node.id == "chr"]


def is_made_text(node):
    """Tells whether the value is a literal string, an f-string, str(..), repr(..) or the join of a literal."""
    joined = isinstance(node, ast.Call) and getattr(node.func, "attr", "") == "join" and is_text(node.func.value)
    return is_text(node) or isinstance(node, ast.JoinedStr) or is_call(node, "str", "repr") or joined


def rule_L28(source, files):
    for node in source.functions:
        returns = [at for at in ast.walk(node) if isinstance(at, ast.Return)]
        if node.name == "__init__":
            yield from returns
        for at in returns:
            if node.name == "__len__" and not (is_call(at.value, "len") or isinstance(at.value, ast.Constant)):
                yield at
            if node.name in ("__str__", "__repr__") and not is_made_text(at.value):
                yield at
        if node.name in ("__len__", "__str__", "__repr__") and not isinstance(node.body[-1], ast.Return):
            yield node
        if node.name.startswith("__") and not isinstance(source.parent[node], ast.ClassDef):
            yield node
        if node.name in ("__eq__", "__len__", "__str__", "__repr__"):
            for at in ast.walk(node):
                if isinstance(at, ast.Attribute) and isinstance(at.ctx, ast.Store):
                    yield at


def faults(texts):
    """All faults of the files, given as a dict of their names and source texts."""
    files = {name: Source(name, text) for name, text in texts.items()}
    found = []
    for number in range(1, 29):
        for source in files.values():
            for node in globals()[f"rule_L{number}"](source, files):
                line = node if isinstance(node, int) else getattr(node, "lineno", 1)
                found.append((f"L{number}", source.name, line))
    return sorted(set(found))
