"""Points 68 to 70: searches through the orders of a pattern."""

import random
import unittest

from barbreaks.errors import BadNumber, Unknown
from barbreaks.grids import Grid
from barbreaks.houses import House
from barbreaks.items import Break, Piece
from barbreaks.judging import judge
from barbreaks.making import make_plan
from barbreaks.patterns import Pattern
from barbreaks.plans import Plan
from barbreaks.searches import Search, check_search, find_order, good_orders
from barbreaks.troubles import Trouble, check_trouble, trouble
from tests.helpers import Case, a_break, a_house, a_piece
from tests.pattern_days import doc_pattern, plain_good, plain_orders, small_patterns, some_counts
from tests.plan_days import words_of

GOOD = ("good",)


def three_pattern(limit=30):
    """Pieces of 2, 5 and 9 ticks; the break behind the first two begins at the limit or before."""
    pieces = [Piece(name, grid=Grid(1), least=least, most=least)
              for name, least in [("long", 9), ("mid", 5), ("short", 2)]]
    gap = Break("gap", grid=Grid(1), minute=0, places=1, unit=1, patience=limit + 1)
    return Pattern(House(3, 3, ["cars"]), 0, [None, None, gap, None], pieces)


def ends_in(tree, way=()):
    """The ways to the good ends of a tree."""
    if tree == GOOD:
        return [list(way)]
    if tree[0] == "trouble":
        return []
    return [end for name, branch in tree[1] for end in ends_in(branch, (*way, name))]


class SearchCase(Case):
    def is_tree(self, pattern, counts, names, tree):
        """The tree of the list of names is as the document describes it."""
        self.assertIs(type(tree), tuple)
        full = len(names) == len(pattern.pieces)
        order = pattern.order_of(names) if full else pattern.beginning(names)
        due = trouble(order, counts if full else {})
        if due is not None:
            self.assertEqual((len(tree), tree[0]), (2, "trouble"))
            self.assertEqual((tree[1].word, tree[1].name), (due.word, due.name))
            self.assertIs(check_trouble(order, counts if full else {}, tree[1]), True)
        elif full:
            self.assertEqual(tree, GOOD)
        else:
            self.assertEqual((len(tree), tree[0]), (2, "next"))
            self.are_branches(pattern, counts, names, tree[1])

    def are_branches(self, pattern, counts, names, branches):
        self.assertIs(type(branches), list)
        left = [piece.name for piece in pattern.pieces if piece.name not in names]
        self.assertEqual([name for name, _ in branches], left[:len(branches)])
        for number, (name, branch) in enumerate(branches):
            self.is_tree(pattern, counts, [*names, name], branch)
            last = ends_in(branch) != [] or number == len(left) - 1
            self.assertIs(last, number == len(branches) - 1)

    def found(self, pattern, counts):
        """The answer of find_order, which is right; returns its names."""
        search = find_order(pattern, counts)
        self.assertIs(type(search), Search)
        self.is_tree(pattern, counts, [], search.tree)
        self.assertEqual(ends_in(search.tree), [] if search.names is None else [search.names])
        if search.names is None:
            self.assertIsNone(search.plan)
        else:
            self.assertIs(type(search.names), list)
            self.assertEqual(words_of(search.plan.order), words_of(pattern.order_of(search.names)))
            self.assertTrue(judge(search.plan))
            self.assertEqual(search.plan.sheet.counts(),
                             {kind: counts.get(kind, 0) for kind in pattern.house.kinds})
        self.assertIs(check_search(pattern, counts, search), True)
        return search.names


class TestFindOrder(SearchCase):
    def test_against_all_orders(self):
        rng = random.Random("searches")
        places = []
        for pattern in small_patterns("searches", 240, 40):
            counts = some_counts(pattern, rng)
            good = plain_good(pattern, counts)
            names = self.found(pattern, counts)
            self.assertEqual(names, good[0] if good else None)
            self.assertEqual(list(good_orders(pattern, counts)), good)
            orders = plain_orders(pattern)
            if len(orders) > 1:
                places.append("none" if names is None else min(2, orders.index(names)))
        for place in ["none", 0, 1, 2]:
            self.assertGreater(places.count(place), 2, place)

    def test_first_branch_is_good(self):
        search = find_order(three_pattern(), {"cars": 1})
        self.assertEqual(self.found(three_pattern(), {"cars": 1}), ["long", "mid", "short"])
        self.assertEqual(search.tree, ("next", [("long", ("next", [("mid", ("next", [("short", GOOD)]))]))]))

    def test_last_branch_is_good(self):
        # Only mid and short together last at most 7 ticks, and mid goes first.
        self.assertEqual(self.found(three_pattern(7), {}), ["mid", "short", "long"])
        tree = find_order(three_pattern(7), {}).tree
        self.assertEqual([(name, branch[0]) for name, branch in tree[1]], [("long", "next"), ("mid", "next")])
        self.assertEqual([branch[0] for _, branch in tree[1][0][1][1]], ["trouble", "trouble"])
        self.assertEqual([branch[0] for _, branch in tree[1][1][1][1]], ["trouble", "next"])
        order = Pattern(House(1, 1), 0, [None, a_break("gap", minute=0, grid=Grid(1), patience=2)],
                        [Piece("a", grid=Grid(1), least=1, most=1)])
        self.assertEqual(self.found(order, {}), ["a"])

    def test_no_branch_is_good(self):
        self.assertIsNone(self.found(three_pattern(6), {}))
        self.assertIsNone(self.found(three_pattern(), {"cars": 2}))
        tree = find_order(three_pattern(6), {}).tree
        self.assertEqual([len(branch[1]) for _, branch in tree[1]], [2, 2, 2])

    def test_trouble_before_the_first_gap(self):
        slow = a_break("slow", minute=0, grid=Grid(1), delay=1)
        pattern = Pattern(a_house(), 0, [slow, None], [a_piece("a")])
        self.assertIsNone(self.found(pattern, {}))
        self.assertEqual(find_order(pattern, {}).tree[0], "trouble")

    def test_spots_matter_at_the_end_alone(self):
        # Both orders jam, but no beginning does.
        pattern = doc_pattern()
        pattern = Pattern(House(1, 1, ["cars"]), 0, pattern.shape, pattern.pieces)
        self.assertIsNone(self.found(pattern, {"cars": 3}))
        tree = find_order(pattern, {"cars": 3}).tree
        self.assertEqual(tree[1][1][1][1][0][1][1].word, "spots")

    def test_without_pieces(self):
        pattern = Pattern(a_house(), 0, [a_break("noon", delay=0)], [])
        self.assertEqual(self.found(pattern, {"cars": 1}), [])
        self.assertEqual(find_order(pattern, {}).tree, GOOD)
        self.assertIsNone(self.found(pattern, {"cars": 3}))
        self.assertEqual(self.found(Pattern(a_house(), 0, [], []), {}), [])

    def test_four_pieces(self):
        pieces = [Piece(f"p{number}", grid=Grid(3), least=2, most=6, delay=8) for number in range(4)]
        gaps = [Break(f"b{number}", grid=Grid(60), minute=60 * number, places=1, unit=9, delay=8, patience=2)
                for number in range(4)]
        shape = [None, gaps[0], None, gaps[1], None, gaps[2], None, gaps[3]]
        pattern = Pattern(House(1, 2, ["cars"]), 0, shape, pieces)
        self.assertEqual(self.found(pattern, {"cars": 2}), ["p0", "p1", "p2", "p3"])
        pattern = Pattern(House(1, 1, ["cars"], pack=(200, 208)), 0, shape, pieces)
        self.assertIsNone(self.found(pattern, {"cars": 2}))

    def test_example(self):
        found = find_order(doc_pattern(), {})
        self.assertEqual(self.found(doc_pattern(), {}), ["short", "long"])
        self.assertEqual((found.tree[1][0][0], found.tree[1][0][1][0], found.tree[1][1][1]),
                         ("long", "trouble", ("next", [("long", GOOD)])))

    def test_counts(self):
        pattern = three_pattern(6)
        calls = [find_order, lambda *args: check_search(*args, Search(None, None, GOOD)),
                 lambda *args: list(good_orders(*args))]
        for call in calls:
            self.refuses(Unknown("tea"), call, pattern, {"cars": 61, "tea": 0})
            self.refuses(BadNumber(61), call, pattern, {"cars": 61})
            self.refuses(BadNumber(-1), call, pattern, {"cars": -1})

    def test_nothing_is_changed(self):
        pattern, counts = three_pattern(), {"cars": 1}
        search = find_order(pattern, counts)
        search.names.clear()
        search.tree[1].clear()
        self.assertEqual(counts, {"cars": 1})
        self.assertEqual(self.found(pattern, counts), ["long", "mid", "short"])


class TestGoodOrders(Case):
    def test_search_order(self):
        self.assertEqual(list(good_orders(three_pattern(11), {})), [
            ["long", "short", "mid"], ["mid", "short", "long"], ["short", "long", "mid"],
            ["short", "mid", "long"]])
        self.assertEqual(list(good_orders(three_pattern(6), {})), [])
        self.assertEqual(len(list(good_orders(three_pattern(), {"cars": 1}))), 6)
        self.assertEqual(list(good_orders(Pattern(a_house(), 0, [], []), {})), [[]])

    def test_is_a_generator(self):
        found = good_orders(three_pattern(11), {})
        self.assertIs(iter(found), found)
        first = next(found)
        first.clear()
        self.assertEqual(next(found), ["mid", "short", "long"])


class TestSearch(Case):
    def test_attributes(self):
        names, plan, branches = ["a"], object(), [("a", GOOD)]
        search = Search(names, plan, ("next", branches))
        names.clear()
        branches.clear()
        self.assertEqual(search.names, ["a"])
        self.assertIs(search.plan, plan)
        self.assertEqual(search.tree, ("next", [("a", GOOD)]))

    def test_none(self):
        search = Search(None, None, GOOD)
        self.assertEqual((search.names, search.plan, search.tree), (None, None, GOOD))

    def test_branches_are_copied_at_every_depth(self):
        trouble_there = Trouble("late")
        deep = [("c", ("trouble", trouble_there))]
        middle = [("b", ("next", deep)), ("c", GOOD)]
        search = Search(None, None, ("next", [("a", ("next", middle))]))
        deep.clear()
        middle.clear()
        due = ("next", [("a", ("next", [("b", ("next", [("c", ("trouble", trouble_there))])), ("c", GOOD)]))])
        self.assertEqual(search.tree, due)
        self.assertIs(search.tree[1][0][1][1][0][1][1][0][1][1], trouble_there)

    def test_branches_in_a_tuple(self):
        search = Search(("a",), None, ("next", (("a", ("next", ())),)))
        self.assertEqual(search.names, ["a"])
        self.assertEqual(search.tree, ("next", [("a", ("next", []))]))

    def test_names_that_are_words_of_trees(self):
        branches = [("next", GOOD), ("good", GOOD), ("trouble", GOOD)]
        search = Search(None, None, ("next", branches))
        self.assertEqual(search.tree, ("next", branches))

    def test_trees_of_other_shapes(self):
        for tree in [(), ("next",), ("bad", 3), ("good", 1), ("next", [("a",)]), ("next", [()]),
                     ("next", [("a", GOOD, 5)]), ("next", [("a", ())]), ("next", [], [])]:
            self.assertEqual(Search(None, None, tree).tree, tree)
        inner = [("a", GOOD)]
        search = Search(None, None, ("next", inner, [("b", ("next", inner))]))
        inner.clear()
        self.assertEqual(search.tree, ("next", [("a", GOOD)], [("b", ("next", [("a", GOOD)]))]))


def changed(tree, way, change):
    """The tree in which the subtree at the way of names is changed."""
    if not way:
        return change(tree)
    return (tree[0], [(name, changed(branch, way[1:], change) if name == way[0] else branch)
                      for name, branch in tree[1]])


def swapped_first(tree):
    first, second, *rest = tree[1]
    return ("next", [second, first, *rest])


class TestCheckSearch(SearchCase):
    def setUp(self):
        # The good order is the fourth one: mid, short, long.
        self.pattern = three_pattern(7)
        self.search = find_order(self.pattern, {"cars": 1})
        self.counts = {"cars": 1}

    def answer(self, names, plan, tree):
        return check_search(self.pattern, self.counts, Search(names, plan, tree))

    def right(self, tree):
        self.assertIs(self.answer(self.search.names, self.search.plan, tree), True)

    def wrong(self, tree):
        self.assertIs(self.answer(self.search.names, self.search.plan, tree), False)

    def test_the_search_itself(self):
        self.right(self.search.tree)
        self.assertIs(check_search(self.pattern, self.counts, self.search), True)

    def test_branches_in_tuples(self):
        def packed(tree):
            if tree[0] != "next":
                return tree
            return ("next", tuple((name, packed(branch)) for name, branch in tree[1]))
        self.right(packed(self.search.tree))

    def test_none_for_names_and_plan(self):
        search = self.search
        self.assertIs(self.answer(None, search.plan, search.tree), False)
        self.assertIs(self.answer(search.names, None, search.tree), False)
        self.assertIs(self.answer(None, None, search.tree), False)

    def test_without_a_good_order(self):
        self.pattern = three_pattern(6)
        tree = find_order(self.pattern, self.counts).tree
        self.assertIs(self.answer(None, None, tree), True)
        self.assertIs(self.answer(None, self.search.plan, tree), False)
        self.assertIs(self.answer(["mid", "short", "long"], self.search.plan, tree), False)
        self.assertIs(self.answer(["mid", "short", "long"], None, tree), False)

    def test_names_that_do_not_fit(self):
        for names in [[], ["mid"], ["mid", "short"], ["short", "mid", "long"], ["mid", "mid", "long"],
                      ["mid", "short", "long", "x"], ["mid", "short", "x"], ["long", "mid", "short"]]:
            self.assertIs(self.answer(names, self.search.plan, self.search.tree), False)
        self.assertIs(self.answer(("mid", "short", "long"), self.search.plan, self.search.tree), True)

    def test_a_branch_is_missing(self):
        self.wrong(changed(self.search.tree, [], lambda tree: ("next", tree[1][1:])))
        self.wrong(changed(self.search.tree, ["long"], lambda tree: ("next", tree[1][:1])))
        self.wrong(changed(self.search.tree, ["long"], lambda tree: ("next", [])))
        self.wrong(changed(self.search.tree, [], lambda tree: ("next", tree[1][:1])))
        self.wrong(("next", []))

    def test_a_branch_is_doubled_or_out_of_order(self):
        self.wrong(changed(self.search.tree, ["long"], lambda tree: ("next", [*tree[1], tree[1][-1]])))
        self.wrong(changed(self.search.tree, ["long"], lambda tree: ("next", [tree[1][0], *tree[1]])))
        self.wrong(changed(self.search.tree, ["long"], swapped_first))
        self.wrong(changed(self.search.tree, [], swapped_first))

    def test_a_branch_behind_the_good_one(self):
        tree = self.search.tree
        late = find_order(three_pattern(6), {}).tree[1][2]
        self.wrong(("next", [*tree[1], late]))
        self.wrong(("next", [*tree[1], tree[1][-1]]))
        self.pattern = three_pattern()
        good = [("mid", ("next", [("short", GOOD)])), ("short", ("next", [("mid", GOOD)]))]
        plan = make_plan(self.pattern.order_of(["long", "mid", "short"]), self.counts)
        names = ["long", "mid", "short"]
        self.assertIs(self.answer(names, plan, ("next", [("long", ("next", good[:1]))])), True)
        tree = ("next", [("long", ("next", good))])
        self.assertIs(self.answer(names, plan, tree), False)
        names = ["long", "short", "mid"]
        plan = make_plan(self.pattern.order_of(names), self.counts)
        self.assertIs(self.answer(names, plan, tree), False)

    def test_a_trouble_behind_the_good_branch(self):
        self.pattern = three_pattern(11)
        tree = find_order(self.pattern, self.counts).tree
        names = ["long", "short", "mid"]
        self.assertEqual(ends_in(tree), [names])
        self.assertEqual([name for name, _ in tree[1][0][1][1]], ["mid", "short"])
        late = tree[1][0][1][1][0][1]
        self.assertEqual(late[0], "trouble")
        self.pattern = Pattern(self.pattern.house, 0, self.pattern.shape, [self.pattern.pieces[at] for at in (0, 2, 1)])
        tree = ("next", [("long", ("next", [tree[1][0][1][1][1], ("mid", late)]))])
        plan = make_plan(self.pattern.order_of(names), self.counts)
        self.assertIs(self.answer(names, plan, tree), False)
        self.assertIs(self.answer(None, None, tree), False)
        tree = ("next", [("long", ("next", tree[1][0][1][1][:1]))])
        self.assertIs(self.answer(names, plan, tree), True)
        self.assertIs(self.answer(None, None, tree), False)

    def test_a_whole_list_has_no_branches(self):
        self.pattern, self.counts = three_pattern(), {"cars": 2}
        tree = find_order(self.pattern, self.counts).tree
        self.assertIs(self.answer(None, None, tree), True)
        for branches in [[], [("short", GOOD)], [("long", tree[1][0][1])]]:
            other = changed(tree, ["long", "mid", "short"], lambda _, branches=branches: ("next", branches))
            self.assertIs(self.answer(None, None, other), False)

    def test_a_good_order_that_is_not_the_first(self):
        # An earlier good order cannot be passed off as one in trouble.
        self.pattern = three_pattern()
        names = ["long", "short", "mid"]
        plan = make_plan(self.pattern.order_of(names), self.counts)
        bad = ("trouble", Trouble("swallowed", name="gap", row=[]))
        tree = ("next", [("long", ("next", [("mid", bad), ("short", ("next", [("mid", GOOD)]))]))])
        self.assertIs(self.answer(names, plan, tree), False)

    def test_troubles(self):
        way = ["long", "mid"]
        order = self.pattern.beginning(way)
        last = trouble(order, {})
        self.assertEqual((last.word, last.name), ("swallowed", "gap"))
        self.right(changed(self.search.tree, way, lambda _: ("trouble", last)))
        for other in [Trouble("swallowed", name="gap", row=last.row[:2]), Trouble("x"),
                      Trouble("swallowed", name="long", row=last.row), Trouble("swallowed", name="gap"),
                      Trouble("late", name="long", row=last.row)]:
            self.wrong(changed(self.search.tree, way, lambda _, other=other: ("trouble", other)))
        # A row of the whole order is none of the beginning.
        whole = [*last.row, (0, 2, 0, 0)]
        self.wrong(changed(self.search.tree, way, lambda _: ("trouble", Trouble("swallowed", name="gap", row=whole))))

    def test_troubles_of_whole_orders(self):
        # One tree goes on where the other one stops, since a beginning may have a trouble behind `next`.
        whole = trouble(self.pattern.order_of(["long", "mid", "short"]), self.counts)
        self.right(changed(self.search.tree, ["long", "mid"],
                           lambda _: ("next", [("short", ("trouble", whole))])))
        self.wrong(changed(self.search.tree, ["long", "mid"], lambda _: ("trouble", whole)))
        self.wrong(changed(self.search.tree, ["long", "mid"], lambda _: ("next", [])))

    def test_counts_are_those_of_whole_orders(self):
        pattern = three_pattern()
        self.pattern, self.counts = pattern, {"cars": 2}
        search = find_order(pattern, self.counts)
        self.assertIs(self.answer(None, None, search.tree), True)
        self.counts = {"cars": 1}
        self.assertIs(self.answer(None, None, search.tree), False)
        # A jam is no trouble of a beginning, which is asked without spots.
        jammed = trouble(pattern.beginning(["long", "mid"]), {"cars": 2})
        self.assertEqual(jammed.word, "spots")
        self.counts = {"cars": 2}
        tree = changed(search.tree, ["long", "mid"], lambda _: ("trouble", jammed))
        self.assertIs(self.answer(None, None, tree), False)

    def test_good_where_it_is_not(self):
        self.wrong(GOOD)
        self.wrong(changed(self.search.tree, ["mid", "short"], lambda _: GOOD))
        self.wrong(changed(self.search.tree, ["long", "mid"], lambda _: ("next", [("short", GOOD)])))
        self.wrong(changed(self.search.tree, ["mid", "short", "long"], lambda _: ("next", [("long", GOOD)])))
        self.wrong(changed(self.search.tree, ["mid", "short", "long"], lambda _: ("next", [])))

    def test_trees_of_other_shapes(self):
        last = trouble(self.pattern.beginning(["long", "mid"]), {})
        for tree in [(), ("good", 1), ("good", []), ("next",), ("trouble",), ("Good",), ("bad", 3),
                     ("trouble", last, 1), ("next", [], []), ("good", "good"), ("trouble", None),
                     ("trouble", []), ("next", None), ("next", 3), None]:
            for way in [[], ["long"], ["long", "mid"], ["mid", "short"], ["mid", "short", "long"]]:
                self.wrong(changed(self.search.tree, way, lambda _, tree=tree: tree))
            self.assertIs(self.answer(None, None, tree), False)

    def test_branches_behind_another_word(self):
        for word in ["Next", "", "more", "trouble", "good"]:
            for way in [[], ["long"], ["mid", "short"]]:
                self.wrong(changed(self.search.tree, way, lambda tree, word=word: (word, tree[1])))

    def test_branches_of_other_shapes(self):
        branches = self.search.tree[1]
        for branch in [(), ("long",), ("long", branches[0][1], 1), ("x", branches[0][1]), (1, 2)]:
            self.wrong(("next", [branch, *branches[1:]]))
        for branch in [(), ("mid",), ("mid", branches[1][1], 1), ("x", branches[1][1]), None, "mid"]:
            self.wrong(("next", [*branches[:1], branch]))

    def test_plans_of_other_orders(self):
        names = self.search.names
        same = Pattern(House(3, 3, ["cars"], apart=2), 1, self.pattern.shape, self.pattern.pieces)
        # The lineup must have the same names; the plan holds for its own order.
        plan = self.search.plan.with_order(same.order_of(names).retimed("gap", 9))
        self.assertTrue(judge(plan))
        self.assertIs(self.answer(names, plan, self.search.tree), True)
        swapped = self.search.plan.with_order(self.pattern.order_of(["short", "mid", "long"]))
        self.assertTrue(judge(swapped))
        self.assertIs(self.answer(names, swapped, self.search.tree), False)
        shorter = self.pattern.order_of(names).upto(3)
        plan = Plan(shorter, studios={"mid": 0, "short": 1}, crews={"mid": 0, "short": 1},
                    spots={"gap": ["cars"]})
        self.assertTrue(judge(plan))
        self.assertIs(self.answer(names, plan, self.search.tree), False)

    def test_plans_that_do_not_hold(self):
        names = self.search.names
        late = self.search.plan.with_order(self.search.plan.order.retimed("gap", -5))
        self.assertFalse(judge(late))
        self.assertIs(self.answer(names, late, self.search.tree), False)
        empty = self.search.plan.with_spot("gap", 0, None)
        self.assertTrue(judge(empty))
        self.assertIs(self.answer(names, empty, self.search.tree), False)
        self.counts = {}
        tree = find_order(self.pattern, {}).tree
        self.assertIs(self.answer(names, empty, tree), True)
        self.assertIs(self.answer(names, self.search.plan, tree), False)

    def test_kinds_of_another_house(self):
        house = House(3, 3, ["soap", "cars"])
        plan = self.search.plan
        other = Plan(plan.order.with_house(house), studios=plan.studios, crews=plan.crews,
                     spots={"gap": ["cars"]})
        self.assertIs(self.answer(self.search.names, other, self.search.tree), True)
        self.assertIs(self.answer(self.search.names, other.with_spot("gap", 0, "soap"), self.search.tree), False)
        bare = Plan(plan.order.with_house(House(3, 3)), studios=plan.studios, crews=plan.crews)
        self.assertIs(self.answer(self.search.names, bare, self.search.tree), False)
        # A kind that is missing in either counts 0.
        self.counts = {"cars": 0}
        tree = find_order(self.pattern, self.counts).tree
        self.assertIs(self.answer(self.search.names, bare, tree), True)
        self.assertIs(self.answer(self.search.names, other, tree), False)
        self.counts = {}
        self.assertIs(self.answer(self.search.names, other.with_spot("gap", 0, None), tree), True)

    def test_without_pieces(self):
        self.pattern = Pattern(a_house(), 0, [], [])
        self.counts = {}
        search = find_order(self.pattern, {})
        self.assertIs(self.answer([], search.plan, GOOD), True)
        self.assertIs(self.answer(None, None, GOOD), False)
        self.assertIs(self.answer(["a"], search.plan, GOOD), False)
        self.assertIs(self.answer([], search.plan, ("next", [])), False)
        self.counts = {"cars": 1}
        self.assertIs(self.answer([], search.plan, GOOD), False)
        jammed = ("trouble", trouble(self.pattern.order_of([]), self.counts))
        self.assertIs(self.answer(None, None, jammed), True)
        self.assertIs(self.answer([], None, jammed), False)

    def test_against_other_searches(self):
        # The search of one pattern is right for another one only if the other says so, too.
        rng = random.Random("other searches")
        patterns = small_patterns("other searches", 40, 40)
        answers = []
        for pattern in patterns:
            counts = some_counts(pattern, rng)
            search = find_order(pattern, counts)
            for other in patterns:
                if not set(counts) <= set(other.house.kinds):
                    continue
                answer = check_search(other, counts, search)
                good = plain_good(other, counts)
                if answer:
                    self.assertEqual(search.names is None, good == [])
                answers.append(answer)
        self.assertGreater(answers.count(True), 40)
        self.assertGreater(answers.count(False), 40)


class TestFacts(Case):
    def test_a_beginning_in_trouble_begins_no_good_order(self):
        seen = 0
        for pattern in small_patterns("facts", 60, 40):
            good = plain_good(pattern, {})
            for names in plain_orders(pattern):
                for count in range(len(names)):
                    if trouble(pattern.beginning(names[:count]), {}) is not None:
                        seen += 1
                        self.assertNotIn(names[:count], [other[:count] for other in good])
        self.assertGreater(seen, 50)


if __name__ == "__main__":
    unittest.main()
