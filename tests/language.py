"""What a program can see of the language rules L1 to L28.

`file_faults` looks at one file, `package_faults` at what only all files together show. Both return a
list of (rule, line, what). Some constructs that the rules allow under conditions are refused here
altogether, because the package does without them: generator expressions, lambdas, annotations,
nested functions, stars in calls, `match`, `with`, `nonlocal`, `:=`, `map`, `iter`, set literals.
"""

import ast
import builtins
import io
import keyword
import re
import tokenize

PACKAGE = "lastside"

BUILTINS = set("""len range enumerate zip min max sum abs sorted reversed int str bool bytes list tuple dict set
isinstance ord repr any all divmod Exception ValueError TypeError KeyError IndexError LookupError
ZeroDivisionError ArithmeticError OverflowError RuntimeError NotImplementedError AttributeError
StopIteration NotImplemented""".split())
PYTHON_ERRORS = {name for name in BUILTINS if name.endswith("Error")} | {"Exception", "StopIteration"}
CAUGHT_ERRORS = {"KeyError", "ZeroDivisionError"}
BUILTIN_KEYWORDS = {"sorted": {"key", "reverse"}, "min": {"key", "default"}, "max": {"key", "default"},
                    "sum": {"start"}, "enumerate": {"start"}, "zip": {"strict"}}
KEYS = {"len", "int", "str", "abs", "sum", "min", "max", "tuple"}
LIBRARY = {"heapq": {"heappush", "heappop", "heapify", "heapreplace", "heappushpop"},
           "math": {"gcd", "lcm", "isqrt", "comb", "perm", "factorial"},
           "itertools": {"product", "combinations", "permutations"}}

OPERATORS = set("""__lt__ __le__ __gt__ __ge__ __ne__ __add__ __sub__ __mul__ __floordiv__ __mod__ __pow__
__and__ __or__ __xor__ __lshift__ __rshift__ __radd__ __rsub__ __rmul__ __rfloordiv__ __rmod__ __rand__ __ror__
__rxor__ __rlshift__ __rrshift__ __iadd__ __isub__ __imul__ __ifloordiv__ __imod__ __ipow__ __iand__ __ior__
__ixor__ __ilshift__ __irshift__ __neg__ __pos__ __invert__ __abs__ __bool__ __contains__ __getitem__
__setitem__""".split())
MAY_CHANGE = set("""__init__ __setitem__ __call__ __enter__ __exit__ __iadd__ __isub__ __imul__ __ifloordiv__ __imod__
__ipow__ __iand__ __ior__ __ixor__ __ilshift__ __irshift__""".split())
DOUBLE = set("__init__ __eq__ __repr__ __str__ __len__ __enter__ __exit__ __call__ __iter__".split()) | OPERATORS

FIRST_METHODS = set("""append clear copy count endswith extend find get index insert isalnum isalpha isdigit
islower isspace isupper items join keys ljust lower lstrip partition pop remove replace reverse rfind rjust
rpartition rsplit rstrip setdefault split splitlines startswith strip update upper values zfill
bit_length""".split())
MORE_METHODS = set("""title capitalize swapcase casefold center expandtabs removeprefix removesuffix rindex
isascii isdecimal isnumeric istitle isidentifier isprintable add discard""".split())
CHANGING = set("append clear extend insert pop remove reverse setdefault update add discard sort".split())
BANNED_ATTRIBUTES = set("""items keys values pop update append clear extend insert remove reverse setdefault
sort args encode decode hex fromhex format""".split())
FREE_ATTRIBUTES = set("count index title find get join lower upper split strip copy add".split())
BUILTIN_ATTRIBUTES = {name for kind in (str, int, list, dict, set, bytes) for name in dir(kind)
                      if not name.startswith("__")}

NEVER_NAMES = set("register mro elements open input law version_info with_traceback add_note".split())
NOT_VARIABLES = set("""attrgetter breakpoint builtins compile copyright credits delattr dir eval exec exit gc
getattr globals hasattr help id importlib license locals methodcaller os quit setattr super type vars sys
__name__""".split())
NEVER_WORDS = set("""type typing typing_extensions enum Enum IntEnum StrEnum Flag IntFlag Generic Protocol ABC
ABCMeta namedtuple NamedTuple TypedDict TYPE_CHECKING abstractmethod _wall _WallAttr""".split())
NEVER_PARTS = ("dataclass", "overload", "contextmanager")
FRAME_NAMES = re.compile(r"\b(f_(back|code|globals|locals|lineno|builtins|trace)|tb_\w+|co_\w+|gi_\w+|cr_\w+)\b")
NAME = re.compile(r"_?[A-Za-z][A-Za-z0-9_]*|_")
NAME_STARTS = ("_wall", "_pe_", "_dcw_", "_enum_", "_cm_", "_twin_re_", "_lay_", "_law_", "_stub_", "_sre",
               "_WallAttr")
FILE_NAMES = set("""test tests testing site conftest sitecustomize usercustomize heapq math
itertools""".split()) | set(dir(builtins)) | NEVER_NAMES | NEVER_WORDS

STATEMENTS = (ast.FunctionDef, ast.ClassDef, ast.Return, ast.Delete, ast.Assign, ast.AugAssign, ast.For,
              ast.While, ast.If, ast.Raise, ast.Try, ast.Assert, ast.Expr, ast.Pass, ast.Break, ast.Continue,
              ast.ImportFrom)
EXPRESSIONS = (ast.BoolOp, ast.BinOp, ast.UnaryOp, ast.IfExp, ast.Dict, ast.ListComp, ast.DictComp, ast.Yield,
               ast.YieldFrom, ast.Compare, ast.Call, ast.FormattedValue, ast.JoinedStr, ast.Constant,
               ast.Attribute, ast.Subscript, ast.Name, ast.List, ast.Tuple, ast.Slice)
PASSING = {"list", "tuple", "dict", "sorted", "sum", "any", "all", "enumerate", "zip", "min", "max"}
FLEETING = {"zip", "enumerate", "reversed", "range"}
VIEWS = {"items", "keys", "values"}
COMPREHENSIONS = (ast.ListComp, ast.DictComp)


def parents_of(tree):
    """The parent of each node of a syntax tree."""
    return {child: node for node in ast.walk(tree) for child in ast.iter_child_nodes(node)}


def called_name(node):
    """The bare name that a call calls, or None."""
    if isinstance(node, ast.Call) and isinstance(node.func, ast.Name):
        return node.func.id
    return None


def called_method(node):
    """The name of the method that a call calls, or None."""
    if isinstance(node, ast.Call) and isinstance(node.func, ast.Attribute):
        return node.func.attr
    return None


def docstrings_of(tree):
    """The docstring nodes of a file."""
    found = []
    for node in ast.walk(tree):
        if isinstance(node, (ast.Module, ast.ClassDef, ast.FunctionDef)) and node.body:
            first = node.body[0]
            if isinstance(first, ast.Expr) and isinstance(first.value, ast.Constant) \
                    and isinstance(first.value.value, str):
                found.append(first.value)
    return found


def is_generator(function):
    """True if a function yields."""
    return any(isinstance(node, (ast.Yield, ast.YieldFrom)) for node in ast.walk(function))


def functions_of(tree):
    """The functions and methods of a file."""
    return [node for node in ast.walk(tree) if isinstance(node, ast.FunctionDef)]


def classes_of(tree):
    """The classes of a file."""
    return [node for node in tree.body if isinstance(node, ast.ClassDef)]


def parameters_of(function):
    """The nodes of the parameters of a function."""
    spec = function.args
    rest = [spec.vararg] if spec.vararg else []
    more = [spec.kwarg] if spec.kwarg else []
    return spec.posonlyargs + spec.args + rest + spec.kwonlyargs + more


def bound_in(function):
    """The names that a function binds."""
    names = {parameter.arg for parameter in parameters_of(function)}
    for node in ast.walk(function):
        if isinstance(node, ast.Name) and isinstance(node.ctx, (ast.Store, ast.Del)):
            names.add(node.id)
        elif isinstance(node, ast.ExceptHandler) and node.name:
            names.add(node.name)
    return names


def module_names(tree):
    """The names that a file binds at module level, with how often."""
    names = []
    for node in tree.body:
        if isinstance(node, (ast.FunctionDef, ast.ClassDef)):
            names.append(node.name)
        elif isinstance(node, ast.ImportFrom):
            names.extend(alias.name for alias in node.names)
        elif isinstance(node, ast.Assign):
            names.extend(target.id for target in node.targets if isinstance(target, ast.Name))
    return names


def is_plain(node, inner=False):
    """True if a module-level value is plain; lists and dicts stand at the outside only (L3, L15)."""
    if isinstance(node, ast.UnaryOp) and isinstance(node.op, ast.USub):
        return isinstance(node.operand, ast.Constant) and isinstance(node.operand.value, int)
    if isinstance(node, ast.Constant):
        return node.value is None or isinstance(node.value, (bool, int, str, bytes))
    if isinstance(node, ast.Name):
        return True
    if isinstance(node, ast.Tuple):
        return all(is_plain(part, True) for part in node.elts)
    if inner:
        return False
    if isinstance(node, ast.List):
        return all(is_plain(part, True) for part in node.elts)
    if isinstance(node, ast.Dict):
        return all(part is not None and is_plain(part, True) for part in node.keys + node.values)
    return False


def text_faults(source):
    """Sizes, characters, words and warnings of one file: L7, L10, L12, L14, L17, L27."""
    faults = []
    lines = source.split("\n")
    if len(lines) - 1 > 399 or not source.endswith("\n"):
        faults.append(("L10", len(lines), "a file of more than 399 lines or without a last line feed"))
    for number, line in enumerate(lines, 1):
        if len(line) > 120:
            faults.append(("L10", number, "a line of more than 120 characters"))
        if any(not " " <= mark <= "~" for mark in line):
            faults.append(("L14", number, "a character outside of the space to ~"))
    tree = ast.parse(source)
    skipped = {(node.lineno, node.col_offset) for node in docstrings_of(tree)}
    for token in tokenize.generate_tokens(io.StringIO(source).readline):
        number = token.start[0]
        if "_wall" in re.findall(r"\w+", token.string) or "_WallAttr" in token.string:
            faults.append(("L12", number, "a word that stands nowhere"))
        # From Python 3.12 on the parts of an f-string are tokens of their own.
        if token.type == tokenize.STRING or tokenize.tok_name[token.type].startswith("FSTRING"):
            faults.extend(("L27", number, what) for what in string_faults(token.string))
        if token.type == tokenize.COMMENT or token.start in skipped:
            continue
        words = re.findall(r"\w+", token.string)
        if any(word in NEVER_WORDS for word in words) or any(part in token.string for part in NEVER_PARTS):
            faults.append(("L17", number, token.string))
        if FRAME_NAMES.search(token.string):
            faults.append(("L17", number, token.string))
        if token.type == tokenize.NUMBER and not token.string.isdigit():
            faults.append(("L7", number, "a number that is not a plain integer"))
    return faults


def string_faults(literal):
    """What is wrong with a string as it is written: L27."""
    faults = []
    if "%" in literal:
        faults.append("the character for formats")
    if re.search(r"\\[^nt\\'\"]", literal.replace("\\\\", "")):
        faults.append("an escape")
    body = literal.rstrip("'\"")
    if body.endswith("._") or body.endswith(".__"):
        faults.append("the end of a string")
    if re.search(r"(^|[^A-Za-z0-9_])__", literal):
        faults.append("a word that begins with two underscores")
    if re.match(r"[A-Za-z]*[rRbBuU]", literal):
        faults.append("a prefix other than f")
    return faults


def module_faults(tree):
    """The statements at module level: L2, L3, L15."""
    faults = []
    imports_end = False
    for place, node in enumerate(tree.body):
        at = node.lineno
        if isinstance(node, ast.ImportFrom):
            if imports_end or node.level or any(alias.asname or alias.name == "*" for alias in node.names):
                faults.append(("L2", at, "an import"))
            continue
        if place == 0 and isinstance(node, ast.Expr) and isinstance(node.value, ast.Constant):
            continue
        imports_end = True
        if isinstance(node, ast.Assign):
            plain = len(node.targets) == 1 and isinstance(node.targets[0], ast.Name) and is_plain(node.value)
            if not plain:
                faults.append(("L3", at, "a value at module level"))
        elif not isinstance(node, (ast.FunctionDef, ast.ClassDef)):
            faults.append(("L3", at, "a statement at module level"))
    names = module_names(tree)
    faults.extend(("L15", 1, f"{name} is bound twice") for name in set(names) if names.count(name) > 1)
    return faults


def kind_faults(tree):
    """Statements and expressions that are not used here: L4, L6, L7, L21."""
    faults = []
    parents = parents_of(tree)
    notes = docstrings_of(tree)
    for node in ast.walk(tree):
        at = getattr(node, "lineno", 0)
        if isinstance(node, ast.stmt) and not isinstance(node, STATEMENTS):
            faults.append(("L6", at, type(node).__name__))
        if isinstance(node, ast.expr) and not isinstance(node, EXPRESSIONS):
            faults.append(("L7", at, type(node).__name__))
        if isinstance(node, ast.Expr) and node.value not in notes \
                and not isinstance(node.value, (ast.Call, ast.Yield, ast.YieldFrom)):
            faults.append(("L6", at, "a value on its own"))
        if isinstance(node, ast.Constant) and isinstance(node.value, (float, complex)):
            faults.append(("L7", at, "a float"))
        if isinstance(node, (ast.Div, ast.MatMult)):
            faults.append(("L7", 0, "a division or a matrix sign"))
        if isinstance(node, ast.BinOp) and isinstance(node.op, ast.Pow) \
                and not isinstance(node.right, ast.Constant):
            faults.append(("L27", at, "an exponent"))
        if isinstance(node, ast.comprehension) and node.is_async:
            faults.append(("L6", at, "async"))
        if isinstance(node, COMPREHENSIONS):
            if len(node.generators) > 6 or sum(len(part.ifs) for part in node.generators) > 12:
                faults.append(("L7", at, "a long comprehension"))
        if isinstance(node, ast.FormattedValue) and (node.format_spec or node.conversion == ord("a")):
            faults.append(("L7", at, "a format"))
        if isinstance(node, ast.JoinedStr) and any(
                isinstance(part, ast.Constant) and isinstance(part.value, str) and parents[part] is not node
                for part in ast.walk(node)):
            faults.append(("L27", at, "a string inside an f-string"))
        if isinstance(node, ast.Compare) and any(isinstance(sign, (ast.Is, ast.IsNot)) for sign in node.ops):
            last = node.comparators[-1]
            if not isinstance(last, ast.Constant) or last.value not in (None, True, False):
                faults.append(("L20", at, "is"))
        if isinstance(node, ast.arg) and node.annotation:
            faults.append(("L21", at, "an annotation"))
    return faults


def function_faults(tree):
    """Functions, their parameters and their names: L4, L5, L10, L12, L15, L28."""
    faults = []
    parents = parents_of(tree)
    outside = {alias.name for node in tree.body if isinstance(node, ast.ImportFrom) for alias in node.names}
    outside |= {node.name for node in classes_of(tree)}
    for node in functions_of(tree):
        at = node.lineno
        owner = parents[node]
        in_class = isinstance(owner, ast.ClassDef)
        if not in_class and not isinstance(owner, ast.Module):
            faults.append(("L4", at, "a nested function"))
        if node.end_lineno - at + 1 > 40:
            faults.append(("L10", at, "a function of more than 40 lines"))
        if node.returns:
            faults.append(("L21", at, "an annotation"))
        decorators = [ast.unparse(part) for part in node.decorator_list]
        if decorators and (not in_class or len(decorators) > 1 or not re.fullmatch(
                r"property|classmethod|staticmethod|\w+\.setter", decorators[0])):
            faults.append(("L4", at, "a decorator"))
        for default in node.args.defaults + [part for part in node.args.kw_defaults if part]:
            if not is_plain(default) or isinstance(default, (ast.List, ast.Dict)):
                faults.append(("L4", at, "a default value"))
        faults.extend(("L15", at, name) for name in bound_in(node) & outside)
        if node.name.startswith("__"):
            faults.extend(double_faults(node, in_class))
    return faults


def double_faults(node, in_class):
    """A method with double underscores: L5, L28."""
    faults = []
    at = node.lineno
    returns = [part.value for part in ast.walk(node) if isinstance(part, ast.Return)]
    if node.name not in DOUBLE or not in_class:
        return [("L5", at, node.name)]
    if is_generator(node):
        faults.append(("L23", at, "yield"))
    if node.name == "__init__" and any(value is not None for value in returns):
        faults.append(("L28", at, "a value returned by __init__"))
    if node.name == "__len__":
        for value in returns:
            if called_name(value) != "len" and not isinstance(value, ast.Constant):
                faults.append(("L28", at, "what __len__ returns"))
    if node.name in ("__str__", "__repr__"):
        for value in returns:
            if called_name(value) not in ("str", "repr") and not isinstance(value, (ast.Constant, ast.JoinedStr)):
                faults.append(("L28", at, "what it returns"))
    if node.name not in ("__init__", "__setitem__", "__call__", "__enter__", "__exit__"):
        for part in ast.walk(node):
            if isinstance(part, (ast.Attribute, ast.Subscript)) and isinstance(part.ctx, (ast.Store, ast.Del)):
                faults.append(("L5", part.lineno, "an operator that changes something"))
            if called_method(part) in CHANGING:
                faults.append(("L5", part.lineno, "an operator that changes something"))
    return faults


def is_setter(node):
    """True if a statement of a class is the setter of a property."""
    return isinstance(node, ast.FunctionDef) and any(
        isinstance(part, ast.Attribute) and part.attr == "setter" for part in node.decorator_list)


def setter_faults(node, body):
    """True if the setter does not stand right below the property whose name it has, or has other parameters."""
    before = body[body.index(node) - 1]
    known = isinstance(before, ast.FunctionDef) and before.name == node.name and [
        part.id for part in before.decorator_list if isinstance(part, ast.Name)] == ["property"]
    return not known or node.decorator_list[0].value.id != node.name or len(parameters_of(node)) != 2


def class_faults(tree):
    """Classes: L5, L18, L19."""
    faults = []
    for node in classes_of(tree):
        at = node.lineno
        if node.decorator_list or node.keywords or not all(isinstance(base, ast.Name) for base in node.bases):
            faults.append(("L5", at, "a decorator, a keyword or a base"))
        methods = [part.name for part in node.body if isinstance(part, ast.FunctionDef) and not is_setter(part)]
        faults.extend(("L18", at, name) for name in set(methods) if methods.count(name) > 1)
        faults.extend(("L5", at, part.name) for part in node.body
                      if is_setter(part) and setter_faults(part, node.body))
        faults.extend(("L18", at, name) for name in set(methods) & set(attributes_of(node)))
        for place, part in enumerate(node.body):
            if isinstance(part, ast.Assign):
                if not is_plain(part.value) or isinstance(part.value, (ast.List, ast.Dict, ast.Name)):
                    faults.append(("L5", part.lineno, "a class value"))
            elif not isinstance(part, ast.FunctionDef) and not (place == 0 and isinstance(part, ast.Expr)):
                faults.append(("L5", part.lineno, "a statement in a class"))
    return faults


def attributes_of(node):
    """The names of the attributes that are assigned below a node."""
    return [part.attr for part in ast.walk(node)
            if isinstance(part, ast.Attribute) and isinstance(part.ctx, (ast.Store, ast.Del))]


def name_faults(tree):
    """Names that are bound or read: L8, L12, L15, L17, L22, L26."""
    faults = []
    parents = parents_of(tree)
    module = set(module_names(tree))
    bound = [(name, 1) for name in module]
    for function in functions_of(tree):
        bound.extend((name, function.lineno) for name in bound_in(function))
        bound.append((function.name, function.lineno))
    for name, at in bound:
        double = name in DOUBLE
        if not double and (not NAME.fullmatch(name) or name.startswith(NAME_STARTS)):
            faults.append(("L12", at, name))
        if name in NEVER_NAMES or name in NOT_VARIABLES or keyword.issoftkeyword(name) and name != "_":
            faults.append(("L17", at, name))
    in_class = {part.name for node in classes_of(tree) for part in node.body if isinstance(part, ast.FunctionDef)}
    for name, at in bound:
        if name in set(dir(builtins)) and name not in in_class:
            faults.append(("L15", at, name))
    for node in ast.walk(tree):
        if isinstance(node, ast.Attribute) and node.attr.startswith("__") and node.attr != "__init__":
            faults.append(("L8", node.lineno, node.attr))
        if isinstance(node, ast.Name) and isinstance(node.ctx, ast.Load):
            faults.extend(read_faults(node, parents, module))
    for name, node in [(name, node) for node in classes_of(tree) for name in attributes_of(node)]:
        if name in BANNED_ATTRIBUTES or name in BUILTIN_ATTRIBUTES - FREE_ATTRIBUTES or name in NEVER_NAMES:
            faults.append(("L26", node.lineno, name))
    return faults


def read_faults(node, parents, module):
    """A name that is read: L8, L12, L22."""
    above = [node]
    while above[-1] in parents:
        above.append(parents[above[-1]])
    local = set()
    for outer in above:
        if isinstance(outer, ast.FunctionDef):
            local |= bound_in(outer)
    if node.id == "_":
        return [("L12", node.lineno, "_ is read")]
    if node.id in local or node.id in module:
        return []
    if node.id in ("property", "classmethod", "staticmethod"):
        return []
    if isinstance(parents[node], ast.Attribute) and parents[node].attr == "setter":
        return []
    if node.id not in BUILTINS:
        return [("L8", node.lineno, node.id)]
    parent = parents[node]
    if node.id in PYTHON_ERRORS or node.id == "NotImplemented":
        return []
    if isinstance(parent, ast.keyword) and parent.arg == "key" and node.id in KEYS:
        return []
    in_isinstance = any(called_name(outer) == "isinstance" for outer in above)
    if not (isinstance(parent, ast.Call) and parent.func is node) and not in_isinstance:
        return [("L22", node.lineno, f"{node.id} is not called")]
    return []


def set_faults(function, parents):
    """Sets: L24. Only `name = set()` and a few uses of that name stand in the package."""
    faults = []
    stored = {}
    for node in ast.walk(function):
        if called_name(node) not in ("set", "frozenset"):
            continue
        parent = parents[node]
        if isinstance(parent, ast.Assign) and isinstance(parent.targets[0], ast.Name):
            stored[parent.targets[0].id] = stored.get(parent.targets[0].id, 0) + 1
        elif not isinstance(parent, ast.Compare) and called_name(parent) not in ("sorted", "len"):
            faults.append(("L24", node.lineno, "a set"))
    for node in ast.walk(function):
        if not isinstance(node, ast.Name) or node.id not in stored or isinstance(node.ctx, ast.Store):
            continue
        parent = parents[node]
        plain = isinstance(parent, ast.Compare) and isinstance(parent.ops[0], (ast.In, ast.NotIn)) \
            or isinstance(parent, ast.Attribute) and parent.attr in ("add", "discard") \
            or called_name(parent) in ("sorted", "len")
        if not plain:
            faults.append(("L24", node.lineno, "the use of a set"))
    faults.extend(("L24", function.lineno, name) for name, times in stored.items() if times > 1)
    return faults


def iterated_at_once(node, parents):
    """True if what a call gives is iterated on the spot."""
    parent = parents[node]
    if isinstance(parent, (ast.For, ast.comprehension)):
        return parent.iter is node
    if isinstance(parent, ast.YieldFrom):
        return True
    if isinstance(parent, ast.Call) and parent.args and parent.args[0] is node \
            or called_name(parent) == "zip":
        return called_name(parent) in PASSING or called_method(parent) == "join"
    return False


def loop_faults(tree):
    """What loops iterate over and change: L23, L24."""
    faults = []
    parents = parents_of(tree)
    for node in ast.walk(tree):
        if called_name(node) in FLEETING or called_method(node) in VIEWS:
            if not iterated_at_once(node, parents) and not (
                    called_name(node) == "range" and isinstance(parents[node], ast.Compare)):
                faults.append(("L23", node.lineno, "not iterated at once"))
        if isinstance(node, ast.For):
            names = {part.id for part in ast.walk(node.iter) if isinstance(part, ast.Name)}
            for part in node.body:
                faults.extend(("L23", node.lineno, name) for name in changed_in(part) & names)
    for function in functions_of(tree):
        faults.extend(set_faults(function, parents))
    return faults


def changed_in(statement):
    """The names whose lists or dicts a statement changes."""
    names = set()
    for node in ast.walk(statement):
        if called_method(node) in CHANGING and isinstance(node.func.value, ast.Name):
            names.add(node.func.value.id)
        if isinstance(node, ast.Subscript) and isinstance(node.ctx, (ast.Store, ast.Del)) \
                and isinstance(node.value, ast.Name):
            names.add(node.value.id)
    return names


def raise_faults(tree):
    """Errors: L19, and the keywords of builtins, L22."""
    faults = []
    for node in ast.walk(tree):
        if isinstance(node, ast.Raise) and node.exc is not None and called_name(node.exc) is None:
            faults.append(("L19", node.lineno, "raise"))
        if isinstance(node, ast.ExceptHandler):
            caught = node.type.elts if isinstance(node.type, ast.Tuple) else [node.type]
            for name in caught:
                if not isinstance(name, ast.Name) or name.id in PYTHON_ERRORS - CAUGHT_ERRORS:
                    faults.append(("L19", node.lineno, "except"))
        name = called_name(node)
        if name in BUILTINS:
            used = {part.arg for part in node.keywords}
            if used - BUILTIN_KEYWORDS.get(name, set()):
                faults.append(("L22", node.lineno, f"a keyword of {name}"))
    return faults


def file_faults(source):
    """The faults that one file shows by itself."""
    tree = ast.parse(source)
    faults = text_faults(source) + module_faults(tree) + kind_faults(tree) + function_faults(tree)
    faults += class_faults(tree) + name_faults(tree) + loop_faults(tree) + raise_faults(tree)
    return faults


def import_faults(name, tree, trees):
    """The imports of one file: L2, L16."""
    faults = []
    for node in [part for part in tree.body if isinstance(part, ast.ImportFrom)]:
        used = [part.id for part in ast.walk(tree) if isinstance(part, ast.Name)]
        for alias in node.names:
            if alias.name not in used:
                faults.append(("L2", node.lineno, f"{alias.name} is not used"))
        if node.module in LIBRARY:
            faults.extend(("L2", node.lineno, alias.name) for alias in node.names
                          if alias.name not in LIBRARY[node.module])
            continue
        head, _, file = node.module.partition(".")
        if head != PACKAGE or file not in trees:
            faults.append(("L2", node.lineno, node.module))
            continue
        own = [part.name for part in trees[file].body if isinstance(part, (ast.FunctionDef, ast.ClassDef))]
        own += [target.id for part in trees[file].body if isinstance(part, ast.Assign) for target in part.targets]
        faults.extend(("L16", node.lineno, alias.name) for alias in node.names if alias.name not in own)
    return faults


def circle_faults(trees):
    """Files that import each other: L16."""
    needs = {name: {part.module.partition(".")[2] for part in tree.body if isinstance(part, ast.ImportFrom)}
             for name, tree in trees.items()}
    faults = []
    for name in needs:
        reached, waiting = set(), [name]
        while waiting:
            for other in needs.get(waiting.pop(), set()) - reached:
                reached.add(other)
                waiting.append(other)
        if name in reached:
            faults.append(("L16", 1, f"{name} imports itself by other files"))
    return faults


def method_faults(trees):
    """Methods, properties and attributes of all files together: L5, L18, L23, L25, L26."""
    faults = []
    plain, special, attributes = set(), set(), set()
    generators, functions = set(), []
    for tree in trees.values():
        for node in classes_of(tree):
            attributes |= set(attributes_of(node))
            for part in node.body:
                if isinstance(part, ast.Assign):
                    attributes |= {target.id for target in part.targets}
                if isinstance(part, ast.FunctionDef):
                    (special if part.decorator_list else plain).add(part.name)
        for node in functions_of(tree):
            functions.append(node.name)
            if is_generator(node):
                generators.add(node.name)
    faults.extend(("L5", 1, name) for name in special & (plain | attributes))
    faults.extend(("L18", 1, name) for name in plain & attributes)
    faults.extend(("L23", 1, name) for name in generators if functions.count(name) > 1)
    for name in (plain | special) & BUILTIN_ATTRIBUTES:
        if name in special or name not in FIRST_METHODS | {"add", "discard"}:
            faults.append(("L26", 1, name))
    known = plain | special | attributes
    for tree in trees.values():
        faults.extend(use_faults(tree, known, generators))
    return faults


def use_faults(tree, known, generators):
    """Attributes and generators as one file uses them."""
    faults = []
    parents = parents_of(tree)
    for node in ast.walk(tree):
        if isinstance(node, ast.Attribute) and node.attr not in known:
            parent = parents[node]
            if isinstance(parent, ast.FunctionDef) and is_setter(parent):
                continue
            is_call = isinstance(parent, ast.Call) and parent.func is node
            if not is_call or node.attr not in FIRST_METHODS | MORE_METHODS:
                faults.append(("L25", node.lineno, node.attr))
            elif parent.keywords:
                faults.append(("L25", node.lineno, f"a keyword of {node.attr}"))
        name = called_name(node) or called_method(node)
        if name in generators and not iterated_at_once(node, parents):
            faults.append(("L23", node.lineno, f"{name} is not iterated at once"))
    return faults


def class_name_faults(trees):
    """Where the name of a class stands, and what module-level lists and dicts go through: L15, L18, L19."""
    faults = []
    classes = {node.name for tree in trees.values() for node in classes_of(tree)}
    kept = {target.id for tree in trees.values() for part in tree.body if isinstance(part, ast.Assign)
            and isinstance(part.value, (ast.List, ast.Dict)) for target in part.targets}
    for tree in trees.values():
        parents = parents_of(tree)
        for node in ast.walk(tree):
            if not isinstance(node, ast.Name) or not isinstance(node.ctx, ast.Load):
                continue
            parent = parents[node]
            if node.id in classes:
                called = isinstance(parent, ast.Call) and parent.func is node
                asked = called_name(parent) == "isinstance" and parent.args[1] is node
                if not called and not asked and not isinstance(
                        parent, (ast.ClassDef, ast.ExceptHandler, ast.Attribute, ast.Raise)):
                    faults.append(("L18", node.lineno, node.id))
            if node.id in kept:
                read = isinstance(parent, ast.Subscript) and isinstance(parent.ctx, ast.Load) \
                    or isinstance(parent, (ast.Compare, ast.For, ast.comprehension)) \
                    or isinstance(parent, ast.Attribute) and parent.attr in VIEWS | {"get", "index", "count"}
                if not read:
                    faults.append(("L15", node.lineno, node.id))
    return faults


def is_fresh(node):
    """True if an expression makes a new list or dict."""
    if isinstance(node, ast.BinOp) and isinstance(node.op, (ast.Add, ast.Mult)):
        return is_fresh(node.left) or is_fresh(node.right)
    if isinstance(node, ast.Subscript):
        return isinstance(node.slice, ast.Slice)
    return isinstance(node, (ast.List, ast.Dict, ast.ListComp, ast.DictComp)) \
        or called_name(node) in ("list", "dict", "set", "sorted")


def values_of(function):
    """The values that a function assigns to its local variables, by their names; None for parts of others."""
    found = {}
    for node in ast.walk(function):
        targets = node.targets if isinstance(node, ast.Assign) else [node.target] if isinstance(node, ast.For) else []
        for target in targets:
            plain = isinstance(node, ast.Assign) and isinstance(target, ast.Name)
            for part in ast.walk(target):
                if isinstance(part, ast.Name) and isinstance(part.ctx, ast.Store):
                    found.setdefault(part.id, []).append(node.value if plain else None)
    return {name: values for name, values in found.items() if name not in {part.arg for part in parameters_of(function)}}


def change_faults(function, classes):
    """What a function changes that it did not create itself: L5 Operators."""
    faults = []
    values = values_of(function)
    fresh = {name for name, found in values.items() if all(is_fresh(value) for value in found)}
    made = {name for name, found in values.items() if all(called_name(value) in classes for value in found)}
    made |= {"self"} if function.name == "__init__" else set()
    for node in ast.walk(function):
        stored = isinstance(getattr(node, "ctx", None), (ast.Store, ast.Del))
        if isinstance(node, ast.Attribute) and stored:
            right = isinstance(node.value, ast.Name) and node.value.id in made
        elif isinstance(node, ast.Subscript) and stored:
            right = isinstance(node.value, ast.Name) and node.value.id in fresh
        elif called_method(node) in CHANGING:
            right = isinstance(node.func.value, ast.Name) and node.func.value.id in fresh
        else:
            right = not isinstance(node, ast.AugAssign) or isinstance(node.value, ast.Constant)
        if not right:
            faults.append(("L5", node.lineno, f"{function.name} changes something"))
    return faults


def is_property(node):
    """True if a statement of a class is a property, not its setter."""
    return isinstance(node, ast.FunctionDef) and any(
        isinstance(name, ast.Name) and name.id == "property" for name in node.decorator_list)


def pure_methods(classes):
    """The methods that change nothing, operators and properties, as tuples (function, line, way)."""
    return [(part, part.lineno, f"{node.name}.{part.name}") for node in classes.values() for part in node.body
            if is_property(part) or isinstance(part, ast.FunctionDef) and part.name in DOUBLE - MAY_CHANGE]


def makers_of(name, classes):
    """The `__init__` that a call of a class runs, its own one or that of a base class; a list of at most one."""
    if name not in classes:
        return []
    own = [part for part in classes[name].body if isinstance(part, ast.FunctionDef) and part.name == "__init__"]
    inherited = [maker for base in classes[name].bases if isinstance(base, ast.Name)
                 for maker in makers_of(base.id, classes)]
    return (own + inherited)[:1]


def name_run_by(node, properties):
    """The name of the function, method, class or property that a node runs, or None."""
    if isinstance(node, ast.keyword) and node.arg == "key":
        return getattr(node.value, "id", getattr(node.value, "attr", None))
    if isinstance(node, ast.Attribute) and node.attr in properties:
        return node.attr
    return called_name(node) or called_method(node)


def purity_faults(trees):
    """What properties and operators, and all that they call, change: L5. Calls are followed by their names.

    A function that yields counts as one that changes something, because it is moved on.
    """
    faults = []
    classes = {node.name: node for tree in trees.values() for node in classes_of(tree)}
    properties = {part.name for node in classes.values() for part in node.body if is_property(part)}
    by_name = {}
    for function in [part for tree in trees.values() for part in functions_of(tree) if not is_setter(part)]:
        by_name.setdefault(function.name, []).append(function)
    waiting, seen = pure_methods(classes), set()
    while waiting:
        function, line, way = waiting.pop(0)
        if function in seen:
            continue
        seen.add(function)
        if is_generator(function):
            faults.append(("L5", line, f"{way} yields"))
        faults.extend(change_faults(function, classes))
        for node in ast.walk(function):
            name = name_run_by(node, properties)
            for part in makers_of(name, classes) + by_name.get(name, []):
                waiting.append((part, node.lineno, f"{way} > {name}"))
    return faults


def package_faults(sources):
    """The faults of all files together; `sources` has the text of each file by its name without `.py`."""
    trees = {name: ast.parse(source) for name, source in sources.items()}
    faults = []
    if len(sources) > 100:
        faults.append(("L14", 1, "more than 100 files"))
    for name, tree in trees.items():
        if name != "__init__" and not re.fullmatch(r"[a-z][a-z0-9_]*", name):
            faults.append(("L14", 1, name))
        if name in FILE_NAMES or name.startswith(("law_", "test_")):
            faults.append(("L14", 1, name))
        faults.extend(import_faults(name, tree, trees))
    faults += circle_faults(trees) + method_faults(trees) + class_name_faults(trees)
    return faults + purity_faults(trees)
