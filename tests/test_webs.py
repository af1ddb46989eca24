"""Point [5] and the part of point [9]: webs."""

from ladderreach.errors import BadEdge, BadHeight, BadSize, DuplicateEdge, NoSuchNode, TooLarge
from ladderreach.webs import Web
from tests.helpers import Case, all_edges, draw_web, drawn, full_edges


class WebTest(Case):
    def test_attributes(self):
        web = Web(2, 3, [(2, 4, 0), (0, 1, 1)])
        self.assertEqual((web.height, web.size), (2, 3))
        self.assertEqual(web.edges, ((0, 1, 1), (2, 4, 0)))
        self.assertIs(type(web.edges), tuple)

    def test_class_values(self):
        self.assertEqual((Web.MOST_NODES, Web.MOST_EDGES), (9, 63))

    def test_edges_in_order_of_source_rank_target(self):
        edges = [(1, 0, 0), (0, 2, 0), (0, 1, 1), (0, 1, 0), (0, 0, 1), (1, 0, 1)]
        right = ((0, 0, 1), (0, 1, 0), (0, 1, 1), (0, 2, 0), (1, 0, 0), (1, 0, 1))
        self.assertEqual(Web(1, 2, edges).edges, right)
        self.assertEqual(Web(1, 2, tuple(edges)).edges, right)
        self.assertEqual(Web(1, 2, edges[::-1]).edges, right)

    def test_iteration(self):
        web = Web(1, 2, [(1, 0, 0), (0, 2, 0)])
        self.assertEqual(list(web), [(0, 2, 0), (1, 0, 0)])
        self.assertEqual(list(web), [(0, 2, 0), (1, 0, 0)])
        self.assertEqual([pair for pair in zip(web, web)][1], ((1, 0, 0), (1, 0, 0)))
        self.assertEqual(list(Web(1, 1, [])), [])

    def test_least_and_greatest_webs(self):
        for height in (1, 2, 3):
            self.assertEqual(Web(height, 1, []).edges, ())
            web = Web(height, 9, full_edges(height))
            self.assertEqual(web.edges, tuple(sorted(full_edges(height))))
            self.assertEqual(list(web), sorted(full_edges(height)))
            for node in range(9):
                self.assertEqual(len(web.out(node)), 7)
            self.assertEqual(web.part(list(range(9))[::-1]).edges, web.edges)

    def test_bad_height(self):
        for height in (-1, 0, 4, 10 ** 59):
            self.assert_raises(BadHeight, Web, height, 1, [])

    def test_bad_size(self):
        for size in (-1, 0, 10, 10 ** 59):
            self.assert_raises(BadSize, Web, 1, size, [])

    def test_too_large(self):
        for height in (1, 2, 3):
            many = all_edges(height, 9)
            self.assertEqual(len(Web(height, 9, many[:63]).edges), 63)
            self.assert_raises(TooLarge, Web, height, 9, many[:64])
            self.assert_raises(TooLarge, Web, height, 9, tuple(many[:64]))

    def test_equal_edges_are_counted_each(self):
        self.assert_raises(TooLarge, Web, 1, 1, [(0, 0, 0)] * 64)
        self.assert_raises(DuplicateEdge, Web, 1, 1, [(0, 0, 0)] * 63, has={"index": 1})

    def test_bad_edge(self):
        for height in (1, 2, 3):
            top = 2 * height
            for edge in [(-1, 0, 0), (2, 0, 0), (0, 0, -1), (0, 0, 2), (0, -1, 0), (0, top + 1, 0)]:
                self.assert_raises(BadEdge, Web, height, 2, [edge], has={"index": 0})
                self.assert_raises(BadEdge, Web, height, 2, [(1, 1, 1), (0, 0, 0), edge], has={"index": 2})
            self.assertEqual(len(Web(height, 2, [(0, 0, 1), (1, top, 0)]).edges), 2)

    def test_duplicate_edge(self):
        edges = [(1, 2, 0), (0, 0, 0), (1, 2, 1), (1, 2, 0), (0, 0, 0)]
        self.assert_raises(DuplicateEdge, Web, 1, 2, edges, has={"index": 3})
        self.assert_raises(DuplicateEdge, Web, 1, 2, tuple(edges), has={"index": 3})

    def test_index_is_the_position_as_passed(self):
        self.assert_raises(BadEdge, Web, 1, 2, [(1, 0, 1), (0, 3, 0), (0, 0, 0)], has={"index": 1})
        self.assert_raises(DuplicateEdge, Web, 1, 2, [(1, 0, 1), (1, 0, 1), (0, 0, 0)], has={"index": 1})

    def test_the_first_wrong_edge_decides(self):
        self.assert_raises(DuplicateEdge, Web, 1, 1, [(0, 0, 0), (0, 0, 0), (5, 0, 0)], has={"index": 1})
        self.assert_raises(BadEdge, Web, 1, 1, [(0, 0, 0), (5, 0, 0), (0, 0, 0)], has={"index": 1})
        self.assert_raises(BadEdge, Web, 1, 1, [(5, 0, 0), (5, 0, 0)], has={"index": 0})

    def test_order_of_errors(self):
        self.assert_raises(BadHeight, Web, 0, 0, [])
        self.assert_raises(BadHeight, Web, 4, 1, [(0, 0, 0)] * 64)
        self.assert_raises(BadHeight, Web, 4, 1, [(1, 0, 0)])
        self.assert_raises(BadSize, Web, 1, 0, [(0, 0, 0)] * 64)
        self.assert_raises(BadSize, Web, 1, 10, [(0, 0, 10)])
        self.assert_raises(BadSize, Web, 1, 10, [(0, 0, 0)] * 2)
        self.assert_raises(TooLarge, Web, 1, 1, [(5, 0, 0)] * 64)
        self.assert_raises(TooLarge, Web, 1, 1, [(0, 9, 0)] + [(0, 0, 0)] * 63)

    def test_out(self):
        web = Web(1, 3, [(2, 1, 2), (0, 2, 0), (2, 0, 1), (0, 0, 2), (2, 0, 0)])
        self.assertEqual(web.out(0), ((0, 0, 2), (0, 2, 0)))
        self.assertEqual(web.out(1), ())
        self.assertEqual(web.out(2), ((2, 0, 0), (2, 0, 1), (2, 1, 2)))
        self.assertIs(type(web.out(0)), tuple)

    def test_out_of_no_node(self):
        web = Web(1, 3, [(0, 0, 0)])
        for node in (-1, 3, -3):
            self.assert_raises(NoSuchNode, web.out, node, has={"node": node})

    def test_the_argument_is_copied_and_kept(self):
        edges = [(1, 0, 0), (0, 2, 0)]
        web = Web(1, 2, edges)
        self.assertEqual(edges, [(1, 0, 0), (0, 2, 0)])
        edges.append((0, 0, 0))
        edges[0] = (1, 1, 1)
        self.assertEqual(web.edges, ((0, 2, 0), (1, 0, 0)))
        self.assertEqual(web.out(1), ((1, 0, 0),))


class PartTest(Case):
    def test_numbering(self):
        web = Web(2, 5, [(1, 0, 3), (3, 4, 1), (3, 1, 3), (4, 2, 1), (0, 0, 4), (4, 3, 2)])
        part = web.part([4, 1, 3])
        self.assertIs(type(part), Web)
        self.assertEqual((part.height, part.size), (2, 3))
        self.assertEqual(part.edges, ((0, 0, 1), (1, 1, 1), (1, 4, 0), (2, 2, 0)))

    def test_any_order_list_or_tuple(self):
        web = Web(1, 4, [(0, 0, 2), (2, 1, 3), (3, 2, 3)])
        nodes = [3, 0, 2]
        right = ((0, 0, 1), (1, 1, 2), (2, 2, 2))
        self.assertEqual(web.part(nodes).edges, right)
        self.assertEqual(nodes, [3, 0, 2])
        self.assertEqual(web.part((2, 3, 0)).edges, right)

    def test_one_node_and_all_nodes(self):
        web = Web(1, 3, [(0, 1, 1), (1, 2, 1), (2, 0, 0)])
        self.assertEqual(web.part([1]).edges, ((0, 2, 0),))
        self.assertEqual((web.part([2]).edges, web.part([2]).size), ((), 1))
        self.assertEqual(web.part([2, 1, 0]).edges, web.edges)

    def test_errors(self):
        web = Web(1, 3, [])
        self.assert_raises(BadSize, web.part, [])
        self.assert_raises(BadSize, web.part, ())
        self.assert_raises(NoSuchNode, web.part, [0, 3, -1], has={"node": 3})
        self.assert_raises(NoSuchNode, web.part, (-1, 3), has={"node": -1})
        self.assert_raises(NoSuchNode, web.part, [7, 3], has={"node": 7})

    def test_drawn_webs(self):
        rng = drawn(5)
        for _ in range(200):
            web = draw_web(rng)
            nodes = rng.sample(range(web.size), rng.randint(1, web.size))
            part = web.part(nodes)
            number = {node: len([other for other in nodes if other < node]) for node in nodes}
            edges = [(number[edge[0]], edge[1], number[edge[2]]) for edge in web.edges
                     if edge[0] in nodes and edge[2] in nodes]
            self.assertEqual(part.edges, tuple(sorted(edges)))
            self.assertEqual((part.height, part.size), (web.height, len(nodes)))
