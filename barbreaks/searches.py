"""Searches through the orders of the pieces of a pattern, and trees that show their answers."""

from barbreaks.jams import kind_counts
from barbreaks.making import holds, make_plan
from barbreaks.troubles import Trouble, check_trouble, trouble

GOOD = ("good",)
NEXT = "next"
TROUBLE = "trouble"


def is_pair(part):
    """True if a part of a tree is a tuple of two things, as most trees and all branches are."""
    return isinstance(part, tuple) and len(part) == 2


def has_branches(tree):
    """True if the tree has the form of one that branches."""
    return is_pair(tree) and tree[0] == NEXT and isinstance(tree[1], (list, tuple))


def copied_part(part):
    """A part of a tree that is not as it should be, with new lists at every depth."""
    if isinstance(part, list):
        return [copied_part(one) for one in part]
    if isinstance(part, tuple):
        return tuple([copied_part(one) for one in part])
    return part


def copied_branch(branch):
    """A branch with new lists of branches."""
    if not is_pair(branch):
        return copied_part(branch)
    return (branch[0], copied_tree(branch[1]))


def copied_tree(tree):
    """A tree with new lists of branches at every depth."""
    if not has_branches(tree):
        return copied_part(tree)
    return (NEXT, [copied_branch(branch) for branch in tree[1]])


class Search:
    """The first good list of names with a plan for it, or None twice, and a tree."""

    def __init__(self, names, plan, tree):
        self.names = None if names is None else list(names)
        self.plan = plan
        self.tree = copied_tree(tree)


def free_names(pattern, names):
    """The names of the pieces that are not in the list, in the order of the pattern."""
    return [piece.name for piece in pattern.pieces if piece.name not in names]


def trouble_of(pattern, counts, names):
    """The trouble of the order of all names, or that of a beginning without spots."""
    if len(names) == len(pattern.pieces):
        return trouble(pattern.order_of(names), counts)
    return trouble(pattern.beginning(names), {})


def good_way(tree):
    """The names on the way to the good end of a tree of the program, None without one."""
    if tree == GOOD:
        return []
    if tree[0] == TROUBLE:
        return None
    # Only the last branch can be good.
    name, branch = tree[1][-1]
    way = good_way(branch)
    return None if way is None else [name, *way]


def tree_of(pattern, counts, names):
    """The tree of a list of names."""
    found = trouble_of(pattern, counts, names)
    if found is not None:
        return (TROUBLE, found)
    if len(names) == len(pattern.pieces):
        return GOOD
    branches = []
    for name in free_names(pattern, names):
        branch = tree_of(pattern, counts, [*names, name])
        branches.append((name, branch))
        if good_way(branch) is not None:
            break
    return (NEXT, branches)


def find_order(pattern, counts):
    """The first order without trouble, with a plan that holds for it."""
    kind_counts(pattern.house, counts)
    tree = tree_of(pattern, counts, [])
    names = good_way(tree)
    plan = None if names is None else make_plan(pattern.order_of(names), counts)
    return Search(names, plan, tree)


def is_troubled(pattern, counts, names, found):
    """True if the trouble shows that no good order begins with these names."""
    if not isinstance(found, Trouble):
        return False
    if len(names) == len(pattern.pieces):
        return check_trouble(pattern.order_of(names), counts, found)
    return check_trouble(pattern.beginning(names), {}, found)


def good_ends_behind(pattern, counts, names, branches):
    """The same as `good_ends` for a tree with these branches."""
    free = free_names(pattern, names)
    ends = []
    for at, branch in enumerate(branches):
        # Behind a good branch there is no other one.
        if at == len(free) or ends != [] or not is_pair(branch) or branch[0] != free[at]:
            return None
        ends = good_ends(pattern, counts, [*names, free[at]], branch[1])
        if ends is None:
            return None
    if ends == [] and len(branches) < len(free):
        return None
    return ends


def good_ends(pattern, counts, names, tree):
    """The lists of names, at most one, at which a right tree of the list of names is good.

    It is None if the tree is not right.
    """
    full = len(names) == len(pattern.pieces)
    if tree == GOOD:
        right = full and trouble(pattern.order_of(names), counts) is None
        return [names] if right else None
    if is_pair(tree) and tree[0] == TROUBLE:
        return [] if is_troubled(pattern, counts, names, tree[1]) else None
    if has_branches(tree) and not full:
        return good_ends_behind(pattern, counts, names, tree[1])
    return None


def check_search(pattern, counts, search):
    """True if the tree of the search shows that its answer is right."""
    kind_counts(pattern.house, counts)
    ends = good_ends(pattern, counts, [], search.tree)
    if search.names is None:
        return search.plan is None and ends == []
    if search.plan is None or ends != [search.names]:
        return False
    lineup = [item.name for item in search.plan.order.lineup]
    due = [item.name for item in pattern.order_of(search.names).lineup]
    return lineup == due and holds(search.plan, counts)


def good_orders(pattern, counts):
    """Yields the names of each order without trouble, in search order."""
    for names in pattern.orders():
        if trouble(pattern.order_of(names), counts) is None:
            yield names
