"""The interface: its names and parameters, each defined in the file under which the document lists it."""

import importlib
import inspect
import unittest

INTERFACE = {
    'base.values': ('is_name(value)', 'is_variable(value)', 'value_kind(value)'),
    'base.schemas': ('is_schema(value)', 'table_names(schema)', 'key_size(schema, table)',
                     'column_kinds(schema, table)', 'is_record(schema, table, value)',
                     'record_key(schema, table, record)'),
    'data.databases': ('is_database(value)', 'make_database(schema, records)', 'table_rows(database, table)',
                       'group_names(database)', 'group_records(database, table, key)',
                       'conflicting_groups(database)', 'with_record(database, table, record)',
                       'without_record(database, table, record)'),
    'data.choices': ('is_choice(database, value)', 'count_choices(database)', 'choice_at(database, number)',
                     'choice_number(database, choice)', 'chosen_record(database, choice, table, key)',
                     'chosen_database(database, choice)', 'swapped(database, choice, table, key, record)',
                     'unlike_groups(database, choice, other)'),
    'query.queries': ('is_query(schema, value)', 'is_answer(schema, query, value)', 'head_kinds(schema, query)',
                      'bound_variables(schema, query)', 'instantiate(schema, query, answer)',
                      'with_head(schema, query, head)'),
    'query.matching': ('possible_answers(database, query)', 'witnesses(database, query, answer)',
                       'is_witness(database, query, answer, value)', 'answers_in(database, query, choice)',
                       'holds_in(database, query, answer, choice)',
                       'answers_through(database, query, choice, table, key)'),
    'attack.closures': ('implied_variables(schema, query, index)', 'attacked_variables(schema, query, index)',
                        'unattacked_variables(schema, query)', 'attack_path(schema, query, index, variable)',
                        'is_attack_path(schema, query, index, variable, value)'),
    'attack.graphs': ('attack_edges(schema, query)', 'find_cycle(schema, query)', 'is_cycle(schema, query, value)',
                      'elimination_order(schema, query)'),
    'formula.formulas': ('is_formula(schema, value)', 'free_variables(schema, formula)',
                         'formula_size(schema, formula)', 'quantifier_count(schema, formula)',
                         'push_negations(schema, formula)'),
    'formula.evaluation': ('evaluate(database, formula, binding)',),
    'formula.compiler': ('compile_query(schema, query)', 'certain_by_formula(database, query)'),
    'certain.trees': ('is_certain_tree(database, query, answer, value)', 'certain_tree(database, query, answer)'),
    'certain.exchanges': ('is_refuting(database, query, answer, value)', 'refuting_choice(database, query, answer)',
                          'exchange(database, query, answer, choice, other)'),
    'certain.components': ('components(database, query, answer)',),
    'certain.verdicts': ('decide(database, query, answer)', 'classify(database, query, answer)',
                         'is_decision(database, query, answer, value)', 'certain_answers(database, query)',
                         'open_answers(database, query)'),
    'measure.shares': ('is_weights(database, value)', 'choice_share(database, choice, *, weights=None)',
                       'answer_share(database, query, answer, *, weights=None)',
                       'answer_shares(database, query, *, weights=None)',
                       'expected_answers(database, query, *, weights=None)'),
    'measure.bounds': ('is_pattern(schema, value)', 'count_range(database, pattern)',
                       'sum_range(database, pattern, column)', 'minimum_range(database, pattern, column)',
                       'maximum_range(database, pattern, column)', 'answer_range(database, query)'),
    'settle.settlements': ('is_settlement(schema, value)', 'are_settlements(schema, value)',
                           'admitted_records(database, settlements, table, key)',
                           'settled_database(database, settlements)', 'disputed_groups(database, settlements)'),
    'settle.influence': ('find_contrast(database, query, answer, table, key)',
                         'is_contrast(database, query, answer, table, key, value)',
                         'influential_groups(database, query, answer)'),
    'settle.plans': ('is_plan(database, query, answer, value)', 'plan_cost(database, query, answer, plan)',
                     'follow_plan(database, query, answer, plan, choice)'),
    'settle.least': ('least_plan(database, query, answer)', 'least_cost(database, query, answer)',
                     'find_guard(database, query, answer)', 'is_guard(database, query, answer, cost, value)'),
    'sources.claims': ('is_claim(schema, value)', 'are_claims(schema, value)',
                       'sources_of(schema, claims, table, record)'),
    'sources.policies': ('is_policy(value)', 'counting_claims(schema, claims, policy)',
                         "claimed_database(schema, claims, *, policy=('all',))"),
    'reports.reports': ('is_report(schema, value)', 'step_kinds(schema, report, step)',
                        'report_results(database, report, choice)', 'report_bounds(database, report)',
                        'exact_bounds(database, report)'),
    'text.formats': ('format_schema(schema)', 'format_record(schema, table, record)', 'format_query(schema, query)',
                     'format_settlement(schema, settlement)', 'format_policy(policy)', 'parse_schema(text)',
                     'parse_record(schema, text)', 'parse_query(schema, text)', 'parse_settlement(schema, text)',
                     'parse_policy(text)'),
}
CLASSES = {
    'desk.desk': ("Desk(schema, *, policy=('all',), claims=(), settlements=())", 'schema()', 'claims()', 'settlements()',
                  'policy()', 'database()', 'watched()', 'disputed()', 'log()', '__len__()', '__str__()', '__eq__(other)',
                  'claim(table, record, source)', 'withdraw(table, record, source)', 'settle(table, key, records)',
                  'release(table, key, records)', 'set_policy(policy)', 'watch(name, query)', 'unwatch(name)',
                  'apply(operation)', 'apply_all(operations)', 'undo()', 'classes(name)', 'decide(name, answer)'),
    'desk.replicas': ("Replica(schema, *, policy=('all',))", 'claims()', 'settlements()', 'database()', 'desk()',
                      '__len__()', '__str__()', '__eq__(other)', 'make_claim(table, record, source)',
                      'withdraw_claim(table, record, source)', 'make_settlement(table, key, records)',
                      'release_settlement(table, key, records)', 'message()', 'receive(message)', 'missing(message)'),
    'text.shell': ('Shell()', 'desk()', '__len__()', '__str__()', '__eq__(other)', 'run(command)', 'run_all(commands)'),
}
CONSTANTS = {
    'base.schemas': {'MAX_TABLES': 6, 'MAX_COLUMNS': 4},
    'data.databases': {'MAX_RECORDS': 40, 'MAX_GROUP': 6},
    'query.queries': {'MAX_ATOMS': 4, 'MAX_HEAD': 4},
    'formula.formulas': {'MAX_DEPTH': 20, 'MAX_PARTS': 200, 'MAX_QUANTIFIERS': 8},
    'certain.components': {'MAX_CHOICES': 4096},
    'settle.settlements': {'MAX_SETTLEMENTS': 60},
    'settle.least': {'MAX_POSITIONS': 4096},
    'sources.claims': {'MAX_CLAIMS': 200},
    'reports.reports': {'MAX_STEPS': 8},
    'desk.desk': {'MAX_WATCHED': 6},
}


class TestInterface(unittest.TestCase):

    def test_each_function(self):
        for file, functions in INTERFACE.items():
            module = importlib.import_module('rightrecord.' + file)
            for text in functions:
                name = text.partition('(')[0]
                with self.subTest(module=file, function=name):
                    function = getattr(module, name)
                    self.assertEqual(name + str(inspect.signature(function)), text)
                    self.assertEqual(function.__module__, module.__name__)

    def test_each_class(self):
        for file, texts in CLASSES.items():
            module = importlib.import_module('rightrecord.' + file)
            kind = getattr(module, texts[0].partition('(')[0])
            self.assertEqual(kind.__module__, module.__name__)
            self.assertEqual(kind.__name__ + str(inspect.signature(kind)), texts[0])
            for text in texts[1:]:
                with self.subTest(module=file, method=text):
                    # Each method is defined in the class itself.
                    method = vars(kind)[text.partition('(')[0]]
                    parameters = ', '.join(['self'] + [part for part in [text.partition('(')[2][:-1]] if part])
                    self.assertEqual(str(inspect.signature(method)), f'({parameters})')

    def test_each_constant(self):
        for file, constants in CONSTANTS.items():
            module = importlib.import_module('rightrecord.' + file)
            self.assertEqual({name: getattr(module, name) for name in constants}, constants)


if __name__ == '__main__':
    unittest.main()
