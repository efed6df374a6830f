"""The rules by which a node seen in a table is turned to another one that is worth the same."""

from asitruns.errors import NoTurning
from asitruns.middle.forms import is_below, is_node, is_tuple_of
from asitruns.middle.nodes import made_of, under

# The numbers that, as y, make a truth of this word never so.
NEVER = {"over": (0,), "under": (0,), "wide": (0, 1), "rest": (0, 1)}


def num_of(nodes, number):
    """The number that a node of the table tells by itself, or None where it is no num."""
    node = nodes[number]
    return node[1] if node[0] == "num" else None


def worth_of_nums(nodes, seen):
    """What a node seen is worth that names num's alone, or None where it names others."""
    nums = [num_of(nodes, number) for number in under(seen)]
    return None if None in nums else made_of(seen[0], nums)


# Each rule tells what the node seen is turned to, or None where it does not turn it.


def swap(nodes, seen, n):
    """x and y change places."""
    return (seen[0], seen[2], seen[1]) if seen[0] in ("add", "mul", "over", "wide") else None


def group(nodes, seen, n):
    """Of (s, t), y comes s, (t, y)."""
    v = seen[0]
    if v not in ("add", "mul"):
        return None
    x = nodes[seen[1]]
    if x[0] != v or nodes[n] != (v, x[2], seen[2]):
        return None
    return (v, x[1], n)


def ungroup(nodes, seen, n):
    """Of x, (s, t) comes (x, s), t."""
    v = seen[0]
    if v not in ("add", "mul"):
        return None
    y = nodes[seen[2]]
    if y[0] != v or nodes[n] != (v, seen[1], y[1]):
        return None
    return (v, n, y[2])


def subnum(nodes, seen, n):
    """Less k is the same as added with 0 less k."""
    if seen[0] != "sub":
        return None
    k = num_of(nodes, seen[2])
    if k is None or num_of(nodes, n) != (0 - k) % 65536:
        return None
    return ("add", seen[1], n)


def zero(nodes, seen, n):
    """x added with 0."""
    return seen[1] if seen[0] == "add" and num_of(nodes, seen[2]) == 0 else None


def one(nodes, seen, n):
    """x times 1."""
    return seen[1] if seen[0] == "mul" and num_of(nodes, seen[2]) == 1 else None


def nil(nodes, seen, n):
    """x times 0."""
    return seen[2] if seen[0] == "mul" and num_of(nodes, seen[2]) == 0 else None


def less_itself(nodes, seen, n):
    """x less x."""
    return ("num", 0) if seen[0] == "sub" and seen[1] == seen[2] else None


def count(nodes, seen, n):
    """The sum, difference or product of num's."""
    if seen[0] not in ("add", "sub", "mul"):
        return None
    found = worth_of_nums(nodes, seen)
    return None if found is None else ("num", found)


def sure(nodes, seen, n):
    """A truth of num's."""
    if seen[0] not in ("nought", "high", "over", "under", "wide", "rest"):
        return None
    found = worth_of_nums(nodes, seen)
    if found is None:
        return None
    return ("yes",) if found else ("no",)


def never(nodes, seen, n):
    """A truth that is never so, by its y."""
    word = seen[0]
    if word not in NEVER:
        return None
    if num_of(nodes, seen[2]) in NEVER[word] or word == "under" and seen[1] == seen[2]:
        return ("no",)
    return None


RULES = {
    "swap": swap, "group": group, "ungroup": ungroup, "subnum": subnum, "zero": zero, "one": one, "nil": nil,
    "self": less_itself, "count": count, "sure": sure, "never": never,
}


def is_seen(nodes, seen):
    """Whether this is a tuple like a node, and the nodes that it names are in the table."""
    return is_node(seen) and all([is_below(number, len(nodes)) for number in under(seen)])


def turned(nodes, seen, step):
    """What the node seen in a table is turned to by a step (rule, n): another one, or a node's number."""
    if not is_seen(nodes, seen):
        raise NoTurning("no node of the table is seen")
    if not is_tuple_of(step, 2) or step[0] not in RULES or not is_below(step[1], len(nodes)):
        raise NoTurning("no step of a known rule and a node of the table")
    rule = step[0]
    found = RULES[rule](nodes, seen, step[1])
    if found is None:
        raise NoTurning(f"the rule {rule} does not turn this node")
    return found
