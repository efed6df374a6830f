"""The looker: whether a paper shows that a made block does what the plain block of its rows does."""

from asitruns.errors import NoTurning
from asitruns.middle.forms import are_rows, is_below, is_of_told_kinds, is_table, is_tuple_of
from asitruns.middle.lead import lead
from asitruns.middle.nodes import under
from asitruns.middle.rules import turned


def is_made(block):
    """Whether a block has a number as place, rows of a block, and a table; items and exit are compared later."""
    if not is_tuple_of(block, 5) or not is_of_told_kinds(block):
        return False
    if not is_below(block[0], 65536) or not are_rows(block[1]):
        return False
    if not isinstance(block[2], tuple) or not isinstance(block[3], tuple):
        return False
    if not all([is_tuple_of(led, 5) for led in block[3]]):
        return False
    return is_table(block[2], [led[0] for led in block[3]])


def is_like(like, many):
    """Whether this is None or (j, steps), j one of so many nodes."""
    if like is None:
        return True
    return is_tuple_of(like, 2) and is_below(like[0], many) and isinstance(like[1], tuple)


def is_paper(paper, plain, many):
    """Whether a paper has a fate for each item and a like for each node of the plain block; many made nodes."""
    if not is_tuple_of(paper, 2):
        return False
    fates = paper[0]
    likes = paper[1]
    if not is_tuple_of(fates, len(plain[3])) or not is_tuple_of(likes, len(plain[2])):
        return False
    if not all([is_tuple_of(fate, 2) and is_of_told_kinds(fate) for fate in fates]):
        return False
    return all([is_like(like, many) for like in likes])


def all_alike(numbers, alike):
    """The made nodes that these plain nodes are like, None for those that are like none."""
    return tuple([alike[number] for number in numbers])


def is_again(led, alike, k, i):
    """Whether the plain item k is a get that brings what the get i ahead of it brought."""
    if not is_below(i, k) or led[k][0] != "get" or led[i][0] != "get":
        return False
    if any([between[0] in ("set", "right") for between in led[i + 1:k]]):
        return False
    numbers = all_alike(led[k][2], alike)
    return None not in numbers and numbers == all_alike(led[i][2], alike)


def fates_hold(fates, led, alike):
    """Whether each of the plain items is the next kept one, or is again one ahead."""
    kept = 0
    for k, fate in enumerate(fates):
        if fate == ("kept", kept):
            kept += 1
        elif fate[0] != "again" or not is_again(led, alike, k, fate[1]):
            return False
    return True


def item_nodes(nodes):
    """The numbers of the item nodes, by the items that bring them."""
    found = {}
    for number, node in enumerate(nodes):
        if node[0] == "item":
            found[node[1]] = number
    return found


def seen_as(node, fates, alike, bringing):
    """A plain node as it is seen in the made table, a tuple or a node's number, None standing for likes of none."""
    if node[0] == "item":
        fate = fates[node[1]]
        return ("item", fate[1]) if fate[0] == "kept" else alike[bringing[fate[1]]]
    named = under(node)
    return node[:1] + all_alike(named, alike) if named else node


def comes_to(nodes, seen, like):
    """Whether the like's steps turn what is seen to its made node; no number, nor what has None, is turned."""
    for step in like[1]:
        try:
            seen = turned(nodes, seen, step)
        except NoTurning:
            return False
    return seen == like[0] or seen == nodes[like[0]]


def likes_hold(paper, plain, alike, nodes):
    """Whether each plain node that is like a made one is turned to it."""
    bringing = item_nodes(plain[2])
    for node, like in zip(plain[2], paper[1]):
        if like is not None and not comes_to(nodes, seen_as(node, paper[0], alike, bringing), like):
            return False
    return True


def kept_items(fates, led, alike):
    """The items that a made block with these fates has."""
    found = []
    for fate, thing in zip(fates, led):
        if fate[0] == "kept":
            found.append(thing[:2] + tuple([all_alike(numbers, alike) for numbers in thing[2:]]))
    return tuple(found)


def kept_exit(way, alike):
    """The exit that a made block has where the plain one has this."""
    numbers = way[1]
    if way[0] in ("when", "go"):
        numbers = all_alike(numbers[:1], alike) + numbers[1:]
    return (way[0], numbers, all_alike(way[2], alike), all_alike(way[3], alike))


def lets_by(block, paper):
    """Whether the made block, as its paper shows, does what the plain block of its place and rows does."""
    if not is_made(block):
        return False
    plain = lead(block[0], block[1])
    if not is_paper(paper, plain, len(block[2])):
        return False
    fates = paper[0]
    alike = [None if like is None else like[0] for like in paper[1]]
    if not fates_hold(fates, plain[3], alike):
        return False
    if not likes_hold(paper, plain, alike, block[2]):
        return False
    # A made block holds no None, so a like of none equals nothing in it.
    return block[3] == kept_items(fates, plain[3], alike) and block[4] == kept_exit(plain[4], alike)
