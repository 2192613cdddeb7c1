"""The interface: every name is defined in its own file, with the arguments that the document lists."""

import ast
import importlib
import os
import unittest

FOLDER = os.path.join(os.path.dirname(os.path.dirname(os.path.abspath(__file__))), "layerask")

FUNCTIONS = {
    "field": ("is_prime(number)", "check_modulus(p)", "power(base, exponent, p)", "inverse(number, p)",
              "is_number(number, p)"),
    "polys": ("value(values, t, p)", "corners(values, p)", "same(values, others, p)", "common(values, others, p)",
              "degree(values, p)"),
    "cubes": ("value_at(table, point, p)", "point_table(point, p)", "nearness(point, other, p)",
              "fold(table, number, p)", "between(point, other, t, p)", "line_values(table, point, other, p)"),
    "sums": ("total(terms, p)", "fold_terms(terms, number, p)", "honest(terms, degree, p)"),
    "circuits": ("checked(circuit)", "checked_rows(circuit, rows)", "modulus(circuit)", "depth(circuit)",
                 "width(circuit, layer)", "row_bits(rows)", "run_row(circuit, inputs)", "run(circuit, rows)",
                 "input_table(circuit, rows)", "output_rows(circuit, table, bits)"),
    "wiring": ("weights(gates, g, x, y, p)", "weights_by(gates, near_g, near_x, near_y, p)"),
    "turns": (),
    "answering": ("answers(answerer, throws)", "rounds_of(circuit, bits, layer)"),
    "asking": ("judge(circuit, rows, outputs, throws, answers)",),
    "blame": ("blame(circuit, rows, outputs, throws, answers)",),
    "counts": ("plan(circuit, dims)", "throws(circuit, dims)", "share(circuit, dims)",
               "most_believed(circuit, dims)", "told_work(circuit, dims)"),
    "errors": (),
    "bluffing": ("hopeful(lack, guesses, degree, p)",),
    "talks": ("write_talk(throws, answers)", "read_talk(text)"),
    "tokens": ("tokenize(text)", "is_word(text)"),
    "trees": ("write_expression(e)", "write_program(program)", "parts_of(e)"),
    "parsing": ("parse_program(text)", "parse_expression(text)"),
    "sizes": ("check(program)", "output_sizes(program)", "count_numbers(sizes)"),
    "meaning": ("evaluate(program, numbers)",),
    "graphs": ("build(program)", "evaluate_graph(graph, numbers)"),
    "layers": ("levels(graph)", "circuit_of(graph)", "circuit_of_program(program)", "input_columns(circuit, numbers)"),
    "jobs": (),
    "console": ("run_script(text)",),
    "chains": ("checked_chain(circuits)", "run_chain(circuits, rows)", "chain_plan(circuits, dims)",
               "chain_throws(circuits, dims)", "chain_share(circuits, dims)", "chain_most(circuits, dims)",
               "chain_work(circuits, dims)", "chain_answers(circuits, rows, throws)",
               "judge_chain(circuits, rows, outputs, throws, answers)",
               "blame_chain(circuits, rows, outputs, throws, answers)"),
    "joining": ("mixed(numbers, mix, p)", "join_answers(answerer, throws)"),
    "bundles": ("checked_bundle(circuits, rows)", "bundle_throws(circuits, bits)", "bundle_share(circuits, bits)",
                "judge_bundle(circuits, rows, outputs, throws, told)", "bundle_answers(circuits, rows, throws)",
                "bundle_blame(circuits, rows, outputs, throws, told)"),
    "tables": ("coefficients(entries, p)", "picking(entries, p)", "read_tables(text)", "parse_with_tables(text)"),
    "stepping": ("state_size(program)", "state_circuit(program)"),
    "bags": ("mark(row, s, p)", "product(rows, s, t, p)", "same_bag(rows, others, s, t, p)",
             "among(rows, table, counts, s, t, p)", "in_order(rows)", "sorted_claim(rows, outputs, s, t, p)",
             "bag_blame(rows, others, s, t, p)", "most_same(many, width, p)"),
    "regular": ("regular(p, bits, rules)", "checked_regular(circuit)", "explicit(circuit)",
                "regular_weights(rule, g, x, y, p)", "run_regular(circuit, rows)", "regular_answers(circuit, rows, throws)",
                "regular_work(circuit, bits)", "judge_regular(circuit, rows, outputs, throws, told)",
                "blame_regular(circuit, rows, outputs, throws, told)", "sum_circuit(p, bits)", "product_circuit(p, bits)",
                "inner_circuit(p, bits)", "transform_circuit(p, bits)"),
    "matrices": ("multiply(left, right, sizes, p)", "transpose(table, a, b)", "check_sizes(sizes, p)",
                 "check_matrix(table, bits, p)", "product_answers(answerer, throws)", "product_throws(sizes)",
                 "product_share(sizes)", "product_work(sizes)", "judge_product(left, right, claimed, sizes, throws, told, p)",
                 "blame_product(left, right, claimed, sizes, throws, told, p)"),
    "walks": ("steps_of(exponent)", "power(table, bits, exponent, p)", "walk_throws(bits, exponent, whole)",
              "walk_share(bits, exponent, whole)", "walk_answers(table, bits, exponent, claim, throws, p)",
              "judge_walk(table, bits, exponent, claim, throws, told, p)",
              "blame_walk(table, bits, exponent, claim, throws, told, p)", "closed_walks(table, bits, p)",
              "closed_throws(bits)", "closed_share(bits)", "closed_answers(table, bits, throws, p)",
              "judge_closed(table, bits, number, throws, told, p)", "blame_closed(table, bits, number, throws, told, p)"),
    "largetext": ("parse_large(text)",),
    "largenodes": ("nodes_of(program)", "uses(nodes, last)"),
    "largevalues": ("tables_of(plan, inputs)", "result_of(plan, inputs)"),
    "largeroad": ("large_counts(plan)", "judge_large(plan, inputs, claimed, throws, answers)",
                  "large_answers(plan, inputs, throws)", "blame_large(plan, inputs, claimed, throws, answers)"),
    # Files that the interface does not list.
    "tapes": (), "largestages": (),
}

CLASSES = {
    ("errors", "LayeraskError"): (), ("errors", "FieldError"): ("__init__(self, number)",),
    ("errors", "CircuitError"): ("__init__(self, part)",), ("errors", "TalkError"): ("__init__(self, step)",),
    ("errors", "TextError"): ("__init__(self, line)",), ("errors", "CommandError"): ("__init__(self, line)",),
    ("errors", "ProgramError"): ("__init__(self, kind, line)",), ("errors", "SizeError"): ("__init__(self, limit)",),
    ("sums", "SumAsker"): ("__init__(self, p, claim, degrees)", "accept(self, values)", "throw(self, number)",
                           "is_done(self)"),
    ("turns", "Turn"): ("__init__(self, circuit, layer, dims, point, claim)", "accept_line(self, values)",
                        "throw_line(self, number)"),
    ("answering", "Answerer"): ("__init__(self, circuit, rows)", "outputs(self)", "begin(self, layer, point)",
                                "poly(self)", "throw(self, number)", "line(self)"),
    ("asking", "Asker"): ("__init__(self, circuit, rows, outputs)", "wants(self)", "throw(self, number)",
                          "answer(self, values)"),
    ("bluffing", "Bluffer"): ("__init__(self, circuit, rows, claimed, choices)", "outputs(self)", "begin(self, layer, point)",
                              "poly(self)", "throw(self, number)", "line(self)"),
    ("bluffing", "Guesser"): ("__init__(self, circuit, rows, claimed, choices)", "outputs(self)", "begin(self, layer, point)",
                              "poly(self)", "throw(self, number)", "line(self)"),
    ("jobs", "Job"): ("__init__(self, text)", "columns(self, rows)", "claimed(self, claims)", "meaning(self, rows)",
                      "honest(self, rows, dice)", "asked(self, rows, claims, dice, told)", "throw_count(self, rows)"),
    ("chains", "ChainAsker"): ("__init__(self, circuits, rows, outputs)", "wants(self)", "throw(self, number)",
                               "answer(self, values)"),
    ("joining", "Join"): ("__init__(self, p, points, claims)", "wants(self)", "throw(self, number)", "answer(self, values)",
                          "answer_value(self, number)"),
    ("joining", "JoinAnswerer"): ("__init__(self, p, table, points)", "throw(self, number)", "poly(self)", "value(self)"),
    ("stepping", "StepJob"): ("__init__(self, text, steps)", "columns(self, rows)", "states(self, rows)",
                              "honest(self, rows, dice)", "asked(self, rows, claims, dice, told)",
                              "blamed(self, rows, claims, dice, told)", "throw_count(self, rows)"),
    ("regular", "RegularAnswerer"): ("__init__(self, circuit, rows)", "outputs(self)", "begin(self, layer, point)",
                                     "poly(self)", "throw(self, number)", "line(self)"),
    ("matrices", "ProductTurn"): ("__init__(self, p, sizes, point, claim)", "accept_pair(self, values)"),
    ("matrices", "ProductAnswerer"): ("__init__(self, p, left, right, sizes, point)", "poly(self)", "throw(self, number)",
                                      "pair(self)"),
}

# Classes that the interface does not list.
HELPERS = (("asking", "Questions"), ("talks", "Pieces"), ("parsing", "Reader"), ("sizes", "Function"), ("sizes", "Checker"),
           ("meaning", "Numbers"), ("meaning", "Scope"), ("graphs", "Builder"), ("console", "Settings"),
           ("regular", "RegularTurn"), ("regular", "RegularQuestions"), ("tapes", "Tape"), ("walks", "Walk"),
           ("largenodes", "Maker"), ("largeroad", "LargeAsker"), ("largeroad", "LargeAnswerer"))


def body_of(module):
    with open(os.path.join(FOLDER, module + ".py"), encoding="ascii") as held:
        return ast.parse(held.read()).body


def written(function):
    """A function's name and arguments, as the document writes them."""
    return f"{function.name}({ast.unparse(function.args)})"


class InterfaceTest(unittest.TestCase):
    def test_functions(self):
        for module, expected in FUNCTIONS.items():
            found = [written(part) for part in body_of(module) if isinstance(part, ast.FunctionDef)]
            for signature in expected:
                self.assertIn(signature, found)

    def test_classes(self):
        for (module, name), expected in CLASSES.items():
            parts = [part for part in body_of(module) if isinstance(part, ast.ClassDef) and part.name == name]
            self.assertEqual(len(parts), 1, name)
            found = [written(part) for part in parts[0].body if isinstance(part, ast.FunctionDef)]
            for signature in expected:
                self.assertIn(signature, found)

    def test_classes_have_their_methods_themselves(self):
        """Inheriting a listed method is not enough, __init__ included."""
        for (module, name), expected in CLASSES.items():
            held = getattr(importlib.import_module("layerask." + module), name)
            self.assertEqual(held.__module__, "layerask." + module)
            for signature in expected:
                self.assertIn(signature.split("(")[0], vars(held), name)

    def test_every_public_class_is_listed(self):
        """So that the look at the methods leaves no class of the interface out."""
        for module in FUNCTIONS:
            for part in body_of(module):
                if isinstance(part, ast.ClassDef) and (module, part.name) not in CLASSES:
                    self.assertIn((module, part.name), HELPERS)

    def test_every_file_is_listed(self):
        files = {name[:-3] for name in os.listdir(FOLDER) if name.endswith(".py") and name != "__init__.py"}
        self.assertEqual(files, set(FUNCTIONS))

    def test_they_are_imported_by_their_modules(self):
        for module in FUNCTIONS:
            held = importlib.import_module("layerask." + module)
            for signature in FUNCTIONS[module]:
                self.assertEqual(getattr(held, signature.split("(")[0]).__module__, "layerask." + module)


if __name__ == "__main__":
    unittest.main()
