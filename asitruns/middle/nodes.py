"""Tables of nodes, and what their nodes are worth."""

from asitruns.guest.steps import plain_outcome

# The words of nodes that name other ones.
NAMING = ("add", "sub", "mul", "nought", "high", "over", "under", "wide", "rest")


def under(node):
    """The numbers of the nodes that a node names."""
    return node[1:] if node[0] in NAMING else ()


def made_of(word, named):
    """What a word that hangs on worths alone makes of them."""
    if word in ("yes", "no"):
        return word == "yes"
    x = named[0]
    if word == "nought":
        return x == 0
    if word == "high":
        return x >= 32768
    y = named[1]
    if word == "over":
        return x + y >= 65536
    if word == "under":
        return x < y
    if word == "wide":
        return x * y >= 65536
    if word == "rest":
        return y != 0 and x % y != 0
    return plain_outcome(word, x, y) % 65536


def worth(node, before, boxes, marks, brought):
    """What a node is worth; before are the worths of the nodes ahead of it."""
    word = node[0]
    if word == "num":
        return node[1]
    if word == "box":
        return boxes[node[1]]
    if word == "mark":
        return marks[node[1]]
    if word == "item":
        return brought[node[1]] if node[1] < len(brought) else None
    named = [before[number] for number in under(node)]
    return None if None in named else made_of(word, named)


def worths(nodes, boxes, marks, brought):
    """What each node of a table is worth, None where it hangs on what no item has brought."""
    found = []
    for node in nodes:
        found.append(worth(node, found, boxes, marks, brought))
    return found
