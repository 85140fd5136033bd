"""midswitch/charts.py: nodes as integers, held against nodes as points [18] and [19] tell them."""

import unittest

import oracle
from midswitch.books import Book
from midswitch.charts import ENDED, Chart, code_of, first_code, first_spot, goer, nodes_of, way_to, ways_to_codes
from midswitch.errors import TooMany
from midswitch.requests import Request
from midswitch.tables import need_node
from samples import PAIR, PLACES, Checks, many_nodes, one_node_too_many, six_hundred_nodes


class CodesTest(Checks):

    def test_every_node_of_a_table_is_written_and_read_back(self):
        some = 0
        for book, request in list(oracle.wide_cases(150, 81)) + list(oracle.random_cases(100, 82)):
            nodes = oracle.nodes(oracle.all_states(book, request))
            chart = Chart(book, request)
            codes = [code_of(chart, node) for node in nodes]
            self.assertEqual(len(set(codes)), len(nodes))
            self.assertEqual(nodes_of(chart, codes), nodes)
            if len(nodes) <= 600:
                ways, torn = ways_to_codes(chart, request.modes, 600)
                self.assertEqual(set(ways), set(codes))
                some += 1
        self.assertGreater(some, 100)

    def test_nodes_of_matches_that_do_not_agree_have_codes_of_their_own(self):
        request = Request(PAIR, PLACES)
        chart = Chart(Book(PAIR), request)
        grid = [(0, 0), (0, 1), (1, 0), (1, 1)]
        codes = {}
        for many in (0, 1, 2):
            for which in range(3 ** 4):
                marks = [(standing, which // 3 ** at % 3) for at, standing in enumerate(grid)]
                match = tuple([pair for pair in marks if pair[1] < 2])
                if match or many == 0:
                    node = (4, (1, 0), (-1, -1), many, match)
                    codes[code_of(chart, need_node(Book(PAIR), request, node))] = node
        self.assertEqual(len(codes), 1 + 3 * (3 ** 4 - 1))

    def test_the_first_code_is_that_of_a_start_node(self):
        request = Request(PAIR, PLACES, ("begin", "met"))
        chart = Chart(Book(PAIR, starts=()), request)
        node = (0, (1, 0), (1, -1), 0, (((0, 0), 0), ((0, 1), 0), ((1, 0), 1), ((1, 1), 0)))
        self.assertEqual(first_code(chart, request.modes, (1, 0)), code_of(chart, node))
        self.assertEqual(nodes_of(chart, [first_spot(chart, request.modes, (1, 0))]), (node[:3] + (0, ()),))

    def test_a_spot_goes_on_as_the_node_does(self):
        for book, request in oracle.wide_cases(60, 83):
            chart = Chart(book, request)
            gone = goer(chart, request.modes)
            for state, many in oracle.all_states(book, request):
                if state.place is not None:
                    node = state.node()
                    after, spot = gone(code_of(chart, node)), gone(code_of(chart, node[:3] + (0, ())))
                    self.assertEqual(after == ENDED, spot == ENDED)
                    self.assertEqual(after >> chart.spot_at, spot >> chart.spot_at)

    def test_a_way_is_told_in_its_order(self):
        self.assertEqual(way_to({5: None, 7: 5, 2: 7, 9: 5}, 2), [5, 7, 2])
        self.assertEqual(way_to({5: None}, 5), [5])

    def test_too_many(self):
        book, request = six_hundred_nodes()
        ways, torn = ways_to_codes(Chart(book, request), request.modes, 600)
        self.assertEqual(len(ways), 600)
        for book, request in (six_hundred_nodes(), one_node_too_many(), many_nodes()):
            self.refused(TooMany, "most", 599, ways_to_codes, Chart(book, request), request.modes, 599)


if __name__ == "__main__":
    unittest.main()
