"""What modules declare, and where names are looked for."""

from changedsame.errors import NotBound, NotShown, WrongArgument

# Each constructor of the base: its name, its type, this type's parameters, its argument's type.
BASE_CONS = (
    ("Nil", "list", ("a",), None),
    ("Cons", "list", ("a",), ("tuple", (("param", "a"), ("data", "list", (("param", "a"),))))),
    ("None", "option", ("a",), None),
    ("Some", "option", ("a",), ("param", "a")),
    ("DivZero", "exn", (), None),
    ("Bounds", "exn", (), None),
    ("NoMore", "exn", (), None),
    ("NoMatch", "exn", (), None),
)

# How many parameters each type of the base has.
BASE_SORTS = {"list": 1, "option": 1}


class Home:
    """What one module declares: its values, its types with how many parameters they have, its constructors.

    Of a constructor it is told whether it has an argument.
    """

    def __init__(self, name, shows):
        self.name = name
        self.shows = shows
        self.vals = {}
        self.sorts = {}
        self.makers = {}

    def whole(self, name):
        """The whole name of a thing of this module."""
        return f"{self.name}.{name}"

    def does_show(self, name):
        """Whether other modules see a value or a constructor of this one."""
        return self.shows is None or name in self.shows


class Scope:
    """The modules ahead, the one in which names are looked for (None behind all), and the next label."""

    def __init__(self, homes, here, label):
        self.homes = homes
        self.here = here
        self.label = label

    def take_label(self):
        """The next label, which is given away."""
        self.label += 1
        return self.label - 1


def whole_value(scope, name):
    """The whole name of a value that is no local one."""
    if "." in name:
        home, short = home_of(scope, name)
        check_seen(home, short in home.vals, name)
        return name
    if scope.here is None or name not in scope.here.vals:
        raise NotBound(name)
    return scope.here.whole(name)


def home_of(scope, name):
    """The module ahead that a name with a dot tells, and the name behind the dot."""
    module, _, short = name.partition(".")
    if module not in scope.homes:
        raise NotBound(name)
    return (scope.homes[module], short)


def check_seen(home, is_declared, name):
    """Raises the fault of a name with a dot, of a value or a constructor, that the module has not or shows not."""
    if not is_declared:
        raise NotBound(name)
    if not home.does_show(name.partition(".")[2]):
        raise NotShown(name)


def whole_con(scope, name, has_argument):
    """The whole name of a constructor that is to have an argument, or to have none."""
    if "." in name:
        home, short = home_of(scope, name)
        check_seen(home, short in home.makers, name)
        whole, wants = name, home.makers[short]
    elif scope.here is not None and name in scope.here.makers:
        whole, wants = scope.here.whole(name), scope.here.makers[name]
    else:
        whole, wants = name, base_con_wants(name)
    if wants != has_argument:
        raise WrongArgument(name)
    return whole


def base_con_wants(name):
    """Whether a constructor of the base has an argument."""
    for maker in BASE_CONS:
        if maker[0] == name:
            return maker[3] is not None
    raise NotBound(name)


def whole_sort(scope, name, many):
    """The whole name of a type that is to have so many parameters."""
    if "." in name:
        home, short = home_of(scope, name)
        if short not in home.sorts:
            raise NotBound(name)
        whole, wants = name, home.sorts[short]
    elif scope.here is not None and name in scope.here.sorts:
        whole, wants = scope.here.whole(name), scope.here.sorts[name]
    elif name in BASE_SORTS:
        whole, wants = name, BASE_SORTS[name]
    else:
        raise NotBound(name)
    if wants != many:
        raise WrongArgument(name)
    return whole
