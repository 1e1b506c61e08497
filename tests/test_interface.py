"""The interface: its names and parameters, each defined in the file under which the document lists it."""

import importlib
import inspect
import unittest

INTERFACE = {
    'base.values': ('is_name(value)', 'is_variable(value)', 'value_kind(value)'),
    'base.schemas': ('is_schema(value)', 'table_names(schema)', 'key_size(schema, table)',
                     'column_kinds(schema, table)', 'is_record(schema, table, value)',
                     'record_key(schema, table, record)'),
    'data.databases': ('is_database(value)', 'make_database(schema, records)', 'table_rows(database, table)',
                       'group_names(database)', 'group_records(database, table, key)',
                       'conflicting_groups(database)', 'with_record(database, table, record)',
                       'without_record(database, table, record)'),
}


class TestInterface(unittest.TestCase):

    def test_each_function(self):
        for file, functions in INTERFACE.items():
            module = importlib.import_module('rightrecord.' + file)
            for text in functions:
                name = text.partition('(')[0]
                with self.subTest(module=file, function=name):
                    function = getattr(module, name)
                    self.assertEqual(name + str(inspect.signature(function)), text)
                    self.assertEqual(function.__module__, module.__name__)


if __name__ == '__main__':
    unittest.main()
