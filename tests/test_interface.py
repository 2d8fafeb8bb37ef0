"""The interface: each name stands in its file, with its arguments, each method in the body of its class."""

import ast
import pathlib

from wholeways.disk import Disk
from wholeways.log import Log, formatted
from wholeways.serial import Check
from wholeways.transactions import Transaction

from tests.helping import Case

FOLDER = pathlib.Path(__file__).resolve().parent.parent / "wholeways"

INTERFACE = {
    "tree": "look(batch, spot) put(batch, spot, mark) take(batch, spot) first_from(batch, spot) walk(batch, low, high) "
            "all_spots(batch) depth(batch) pages_of(batch) is_sound(batch)",
    "versions": "write_all(batch, commit, changes) take_version(batch, key, commit) at(batch, snapshot, key) "
                "range_at(batch, snapshot, low, high) versions_of(batch, key) all_versions(batch) dict_at(batch, snapshot)",
    "judges": "sees(history, index, key) many_orders(history) has_seen(history, index, key) is_serial_order(history, thing) "
              "is_ring(history, thing) first_failure(history, order) ties(history) lost_updates(history) serial_order(history) "
              "ring(history) worths_behind(history, order) prefix(history, number)",
    "vacuum": "needed(versions, open_lot, last) is_kept_right(versions, open_lot, last, thing) "
              "harm(versions, open_lot, last, commit) takeable(batch, open_lot, last) sweep(batch, open_lot, last, most)",
    "log": "formatted(blocks, ring)",
    "store": "new_store(blocks, ring)",
    "recovery": "pages_of(disk) meaning(disk) prefix_of(disk) commits_of(disk)",
    "graph": "worth_there(graph, name) leads_from(graph, name) leads_to(graph, name) pairs_of(graph) is_whole(thing) graph_of(pairs)",
    "shape": "add_node(store, number, name, worth) set_node(store, number, name, worth) drop_node(store, number, name) "
             "add_tie(store, number, first, word, second, weight) set_tie(store, number, first, word, second, weight) "
             "drop_tie(store, number, first, word, second) node_worth(store, number, name) "
             "tie_weight(store, number, first, word, second) ties_from(store, number, name, word) ties_to(store, number, name, word) "
             "graph_seen(store, number)",
    "paths": "is_path(graph, thing) path_weight(graph, path) turned(path)",
    "expressions": "is_expression(thing) matches(expression, graph, path) size(expression) stretches(expression, graph, path) "
                   "turned_expression(expression)",
    "automata": "automaton(expression) passes(graph, node, stretch) can_end(automaton, graph, place) "
                "ends_with(automaton, worth, state) run(automaton, graph, path) next_places(automaton, graph, place) "
                "behind(automaton, worth, state, step) ahead(automaton, worth, state, step) wants(automaton, worth, state) "
                "comes(automaton, state)",
    "reading_paths": "expression_text(expression) read_expression(text)",
    "alikeness": "parting(one, other) is_parting(one, other, thing) is_alike_table(one, other, thing) alike_table(one, other)",
    "orders": "is_order(thing) on_graph(graph, order) in_store(kept, store, number, order)",
    "sessions": "graph_played(blocks, ring, play) is_right_graph_account(play, account)",
    "graphdesk": "graph_tale(blocks, ring, lines)",
    "papers": "is_answer(graph, question, thing)",
    "best": "best(graph, question) best_by(graph, question, plan) best_in(store, number, question, plan) best_sum(graph, question) "
            "places(graph, question) far(graph, question) sums_to(graph, question)",
    "plans": "weighed(graph, question) reach(graph, question, plan) chosen(graph, question) chosen_in(store, number, question)",
    "products": "is_question(thing) steps_from(graph, question, place) steps_to(graph, question, place)",
}

CLASSES = {
    ("judges", "Dealing"): "__init__(snapshot, number, gets, ranges, writes) __eq__(other)",
    ("transactions", "Transaction"): "__init__(snapshot, look, walk) stands_at() get(key) between(low, high) put(key, worth) drop(key) "
                                     "end() is_open() also_saw(keys, ranges) saw_keys() saw_ranges() wrote() dealing(number)",
    ("serial", "Check"): "__init__(last) opens(snapshot) last() commits(entry, keys, ranges, writes) "
                         "would_commit(entry, keys, ranges, writes) gives_up(entry) open_entries() remembered() could_ring(entry) copy()",
    ("disk", "Disk"): "__init__(blocks) blocks() reached() write(block, content) reach(block) force(lot) calm() power(many) cut() "
                      "read(block) lying(block) waiting() copy()",
    ("log", "Log"): "__init__(disk) append(thing) room() ring_size() forced() last() force(number) begin_at(number) records()",
    ("pages", "Pages"): "__init__(disk) batch() held(page) dirty() write_out(page) force(number) checkpoint() record() forced() room() "
                        "in_use() high() many() notes()",
    ("pages", "Batch"): "get(page) put(page, items) give_page(page) set_root(page) set_last(number) dropped() take_page() root() last() "
                        "done(note) changed()",
    ("store", "Store"): "__init__(disk) begin() stands_at(number) last() lasting() sweep(most) vacuum() debt() get(number, key) "
                        "between(number, low, high) versions() put(number, key, worth) drop(number, key) "
                        "also_saw(number, keys, ranges) abort(number) force() checkpoint() wrote(number) seen(number) commit(number) "
                        "commit_soon(number) open_ones() now() open_snapshots() dirty() write_out(page) disk() ties_of_now()",
    ("kept", "Kept"): "__init__(store) ask(number, question) commit(number) commit_soon(number) worked() told_again() asked_for(question) "
                      "questions() forget()",
    ("graphdesk", "GraphDesk"): "__init__(blocks, ring) tell(line)",
    ("graph", "Graph"): "__init__(nodes, ties) __eq__(other)",
    ("automata", "Automaton"): "__init__(atoms, moves, ends) __eq__(other)",
}


def parts(text):
    """The pairs (name, how many arguments) of a row of calls."""
    rows = [part.strip() for part in text.split(")") if part.strip()]
    return [(row.split("(")[0], len([x for x in row.split("(")[1].split(",") if x.strip()])) for row in rows]


def defined(body):
    return {node.name: node for node in body if isinstance(node, (ast.FunctionDef, ast.ClassDef))}


class Interface(Case):
    def test_functions(self):
        for name, text in INTERFACE.items():
            found = defined(ast.parse((FOLDER / (name + ".py")).read_text()).body)
            for function, many in parts(text):
                self.same(len(found[function].args.args), many)

    def test_methods(self):
        for (name, kind), text in CLASSES.items():
            found = defined(defined(ast.parse((FOLDER / (name + ".py")).read_text()).body)[kind].body)
            for method, many in parts(text):
                self.same(len(found[method].args.args), many + 1)

    def test_methods_without_a_result(self):
        disk = formatted(24, 8)
        log = Log(disk)
        log.append((1,))
        self.same((disk.write(20, ()), disk.reach(20), disk.force((1,)), disk.calm(), disk.power(None), disk.cut()), (None,) * 6)
        self.same((log.force(0), log.begin_at(1)), (None, None))
        deal = Transaction(0, lambda key: None, lambda low, high: [])
        self.same((deal.put("a", 1), deal.drop("a"), deal.also_saw((), ()), deal.end()), (None,) * 4)
        check = Check(0)
        check.opens(0)
        self.same(check.gives_up(0), None)

    def test_objects_that_change_equal_themselves_alone(self):
        makes = [lambda: Disk(16), lambda: Log(formatted(24, 8)), lambda: Check(0), lambda: Transaction(0, None, None)]
        for make in makes:
            one = make()
            self.assertTrue(one == one)
            for other in (make(), 0, None, ()):
                self.assertFalse(one == other)
