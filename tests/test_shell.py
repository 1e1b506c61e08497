"""A shell (18.1)."""

import random

from rightrecord.attack.graphs import find_cycle
from rightrecord.desk.desk import Desk
from rightrecord.errors import (InvalidAnswer, InvalidCommand, InvalidOperation, ParseError, TooMany, UnknownName)
from rightrecord.measure.shares import answer_share
from rightrecord.settle.influence import influential_groups
from rightrecord.settle.least import least_cost
from rightrecord.text.formats import format_policy, format_query, format_record, format_schema, format_settlement
from rightrecord.text.shell import Shell
from tests import rings, text_oracle
from tests.desk_oracle import Book, Drawer, is_small
from tests.support import N, S, STRANGE, Case
from tests.test_claims import K, many
from tests.test_desk import ring_desk
from tests.test_settlements import many as many_settlements

Q = (('P', 'C'), (('job', ('P', 'T')), ('city', ('T', 'C'))))
SCHEMA = 'schema city/1(name,name) job/1(name,name)'
SAMPLE = (SCHEMA, 'claim eve city(lyon,gaul)', 'claim eve job(ann,lyon)', 'watch home P,C <- job(P,T) city(T,C)',
          'answers home',
          'claim tom job(ann,nice)', 'share home ann,gaul', 'matters home ann,gaul')
LAST = 'policy trusted eve,tom'
# A command of each form, after SAMPLE.
FORMS = (SCHEMA, 'claim eve job(bob,lyon)', 'withdraw tom job(ann,nice)', 'settle job(ann,lyon)',
         'release job(ann,lyon)',
         'policy votes', LAST, 'watch town - <- job(P,T)', 'unwatch home', 'undo', 'answers home',
         'class home ann,gaul',
         'share home ann,gaul', 'cost home ann,gaul', 'matters home ann,gaul', 'compiled home', 'disputed', 'claims',
         'settlements')


def sample_shell():
    shell = Shell()
    shell.run_all(SAMPLE)
    return shell


def text_of(values):
    return ','.join(map(str, values)) or '-'


def news_text(news):
    return ' ; '.join(f'{name} {text_of(answer)} {old}>{new}' for name, answer, old, new in news) or 'none'


def groups_text(names):
    return ' '.join(f'{table}({text_of(key)})' for table, key in names) or 'none'


class Shells(Case):

    def refused(self, error, shell, command):
        """The command raises the error, is counted, and leaves the desk as it was."""
        desk, count = shell.desk(), len(shell)
        facts = desk is not None and repr((desk.claims(), desk.settlements(), desk.policy(), desk.watched(),
                                           desk.log()))
        for number in (1, 2):
            self.assertEqual(self.call(shell.run, command), f'{type(error).__name__}{vars(error)!r}', command)
            self.assertEqual((len(shell), str(shell)), (count + number, f'shell with {count + number} commands'))
        self.assertIs(shell.desk(), desk)
        if desk is not None:
            self.assertEqual(repr((desk.claims(), desk.settlements(), desk.policy(), desk.watched(), desk.log())),
                             facts)


class TestCommands(Shells):

    def test_the_sample(self):
        shell = Shell()
        self.assertEqual(shell.run_all(SAMPLE), ('ok', 'none', 'none', 'none', 'ann,gaul certain',
                                                 'home ann,gaul certain>open',
                                                 '1/2', 'job(ann)'))
        self.assertEqual((len(shell), str(shell)), (8, 'shell with 8 commands'))

    def test_each_command(self):
        shell = sample_shell()
        for command, expected in (
                ('class home ann,gaul', 'open'), ('class home eve,gaul', 'impossible'), ('share home ann,gaul', '1/2'),
                ('share home eve,gaul', '0/1'), ('cost home ann,gaul', '1'), ('cost home eve,gaul', '0'),
                ('matters home eve,gaul', 'none'), ('compiled home', 'yes'), ('disputed', 'none'), ('claims', '3'),
                ('settlements', '0'), ('settle job(ann,lyon)', 'home ann,gaul open>certain'),
                ('class home ann,gaul', 'certain'),
                ('share home ann,gaul', '1/1'), ('matters home ann,gaul', 'none'), ('settlements', '1'),
                ('settle job(ann,nice) | job(ann,rome)', 'home ann,gaul certain>open'), ('disputed', 'job(ann)'),
                ('settlements', '2'), ('undo', 'home ann,gaul open>certain'),
                ('release job(ann,lyon)', 'home ann,gaul certain>open'),
                ('policy ranks eve,tom', 'home ann,gaul open>certain'), ('policy ranks eve,tom', 'none'),
                ('withdraw eve job(ann,lyon)', 'home ann,gaul certain>impossible'), ('answers home', 'none'),
                ('claims', '2'),
                ('claim eve city(nice,eire)', 'home ann,eire impossible>certain'),
                ('claim sam job(ann,lyon)', 'home ann,eire certain>certain'), ('unwatch home', 'none')):
            if command.startswith('claim sam'):
                # By the ranks the claim of a source that is not listed does not count.
                expected = 'none'
            self.assertEqual(shell.run(command), expected, command)
        self.assertEqual(shell.desk().watched(), {})

    def test_answers_of_several_kinds(self):
        shell = Shell()
        shell.run_all((format_schema(N).join(('schema ', '')), 'claim eve rate(0)', 'claim tom rate(-5)',
                       'claim tom full(ann,1)',
                       'watch x X <- rate(X)', 'watch y - <- rate(0)', 'watch z X,A <- full(A,X)',
                       'claim a pay(1,-3,bob)'))
        for command, expected in (
                ('answers x', '-5 open ; 0 open'), ('answers y', '- open'), ('answers z', '1,ann certain'),
                ('class x -5', 'open'),
                ('class y -', 'open'), ('share y -', '1/2'), ('cost y -', '1'), ('matters y -', 'rate(-)'),
                ('matters x 0', 'rate(-)'),
                ('settle rate(-5)', 'x -5 open>certain ; x 0 open>impossible ; y - open>impossible'),
                ('answers y', 'none'),
                ('settle rate(7)', 'x -5 certain>open ; x 0 impossible>open ; y - impossible>open'),
                ('disputed', 'rate(-)'),
                ('settle pay(1,2,ann)', 'none'), ('disputed', 'pay(1) rate(-)'), ('class z 1,ann', 'certain')):
            self.assertEqual(shell.run(command), expected, command)

    def test_queries_with_a_cycle(self):
        shell = Shell()
        shell.run_all((f'schema {format_schema(rings.LEFT_RIGHT)}',
                       f'watch a {format_query(rings.LEFT_RIGHT, rings.CYCLIC)}',
                       f'watch b {format_query(rings.LEFT_RIGHT, rings.ACYCLIC)}'))
        self.assertEqual((shell.run('compiled a'), shell.run('compiled b')), ('no', 'yes'))

    def test_histories(self):
        """Each command returns the text of what an own book has, and of what the functions return."""
        pick = random.Random(191)
        seen = {}
        for _ in range(150):
            drawer = Drawer(pick)
            schema = drawer.schema
            book = Book(schema)
            shell = Shell()
            self.assertEqual(shell.run(f'schema {format_schema(schema)}'), 'ok')
            for _ in range(20):
                operation = drawer.operation(book)
                undo = pick.random() < 0.15
                command = 'undo' if undo else self.command_of(schema, operation)
                expected = book.undo() if undo else book.perform((operation,))
                if not is_small(book):
                    break
                if isinstance(expected, Exception):
                    self.fails(expected, shell.run, command)
                else:
                    self.assertEqual(shell.run(command), news_text(expected))
                self.compare(pick, book, shell)
                word = command.split(' ')[0]
                seen[word, expected != ()] = seen.get((word, expected != ()), 0) + 1
        for word in ('claim', 'withdraw', 'settle', 'release', 'policy', 'watch', 'unwatch', 'undo'):
            self.assertGreater(seen.get((word, False), 0), 5, seen)
            self.assertGreater(seen.get((word, True), 0), 0, seen)

    def command_of(self, schema, operation):
        word, argument = operation
        if word in ('claim', 'withdraw'):
            return f'{word} {argument[2]} {format_record(schema, *argument[:2])}'
        if word in ('settle', 'release'):
            return f'{word} {format_settlement(schema, argument)}'
        if word == 'watch':
            return f'watch {argument[0]} {format_query(schema, argument[1])}'
        return f'{word} {format_policy(argument) if word == "policy" else argument}'

    def compare(self, pick, book, shell):
        database = book.database()
        self.assertEqual(shell.run('claims'), str(len(book.has['claims'])))
        self.assertEqual(shell.run('settlements'), str(len(book.has['settlements'])))
        self.assertEqual(shell.run('disputed'), groups_text(book.disputed()))
        for name, query in book.has['watched'].items():
            classes = book.classes(query)
            listed = ' ; '.join(f'{text_of(answer)} {kind}' for answer, kind in classes.items())
            self.assertEqual(shell.run(f'answers {name}'), listed or 'none')
            self.assertEqual(shell.run(f'compiled {name}'), 'yes' if find_cycle(book.schema, query) is None else 'no')
            for answer in pick.sample(sorted(classes), min(2, len(classes))):
                self.assertEqual(shell.run(f'class {name} {text_of(answer)}'), classes[answer])
                share = answer_share(database, query, answer)
                self.assertEqual(shell.run(f'share {name} {text_of(answer)}'), f'{share[0]}/{share[1]}')
                self.assertEqual(shell.run(f'cost {name} {text_of(answer)}'), str(least_cost(database, query, answer)))
                names = influential_groups(database, query, answer)
                self.assertEqual(shell.run(f'matters {name} {text_of(answer)}'), groups_text(names))

    def test_schema_commands(self):
        shell = Shell()
        self.assertIsNone(shell.desk())
        for text in ('', ' ', '-', 'a', 'a/1()', 'a/1(name,name', 'city/3(name,name)', 'b/1(name) a/1(name)'):
            error = InvalidCommand('why') if '' in text.split(' ') else ParseError('why')
            self.refused(error, shell, f'schema {text}')
        self.assertEqual(shell.run(SCHEMA), 'ok')
        first = shell.desk()
        self.assertTrue(first == Desk(S))
        shell.run_all(SAMPLE[1:])
        # A command that fails leaves the old desk; one that does not replaces it, also by one with the same schema.
        for text in ('a', 'a/1(name))', 'city/1(name,name) city/1(name,name)'):
            self.refused(ParseError('why'), shell, f'schema {text}')
        self.assertIs(shell.desk(), first)
        self.assertEqual(shell.run(SCHEMA), 'ok')
        self.assertFalse(shell.desk() is first)
        self.assertTrue(shell.desk() == Desk(S))
        self.refused(InvalidOperation('why'), shell, 'undo')
        self.assertEqual(shell.run('schema a/0(number)'), 'ok')
        self.assertTrue(shell.desk() == Desk((('a', 0, ('number',)),)))


class TestErrors(Shells):

    def test_before_there_is_a_desk(self):
        shell = Shell()
        for command in FORMS[1:]:
            self.refused(InvalidCommand('why'), shell, command)
        for command in ('claim eve nothing', 'watch Home x', 'class home ANN', 'policy nothing', 'settle nothing'):
            self.refused(InvalidCommand('why'), shell, command)

    def test_the_number_of_words(self):
        shell = sample_shell()
        for command in FORMS:
            words = command.split(' ')
            for some in range(1, len(words)):
                shorter = ' '.join(words[:some])
                if shorter not in ('schema city/1(name,name)', 'policy trusted', 'watch town -', 'watch town - <-'):
                    self.refused(InvalidCommand('why'), shell, shorter)
            if words[0] not in ('schema', 'settle', 'release', 'policy', 'watch'):
                self.refused(InvalidCommand('why'), shell, command + ' more')
        # What is the whole rest may have more words, of which a text is made that is none.
        for command in ('schema a/1(name) more', 'settle job(ann,lyon) | more', 'release job(ann,lyon) more',
                        'policy all more',
                        'watch town - <- job(P,T) more', 'policy trusted', 'watch town -', 'watch town - <-'):
            self.refused(ParseError('why'), shell, command)
        for command in ('undo home', 'claims x', 'settlements -', 'disputed -', 'compiled', 'answers',
                        'answers home home', 'unwatch',
                        'unwatch home town', 'claim eve', 'claim', 'watch home', 'class home', 'class home ann gaul',
                        'share home',
                        'cost', 'matters home ann,gaul x', 'settle', 'release', 'policy', 'schema'):
            self.refused(InvalidCommand('why'), shell, command)

    def test_spaces(self):
        """Two spaces together, and a space at either end, make no command, also within the rest."""
        shell = sample_shell()
        for command in FORMS + ('watch town P,C <- job(P,T) city(T,C)', 'settle job(ann,lyon) | job(ann,nice)',
                                'policy chain ( all ; votes )'):
            for other in [command + ' ', ' ' + command, command + '  ']:
                self.refused(InvalidCommand('why'), shell, other)
            for at, letter in enumerate(command):
                if letter == ' ':
                    self.refused(InvalidCommand('why'), shell, command[:at] + ' ' + command[at:])

    def test_what_is_no_command(self):
        shell = sample_shell()
        for command in ('', ' ', 'nothing', 'Claims', 'CLAIMS', 'claims\n', '\nclaims', 'claims\t', 'un do', 'help',
                        '-', 'claimseve',
                        'classes home', 'news', 'undo\n', 'class', 'a' * 10 ** 6, 'x ' * 10 ** 5 + 'x',
                        'claim,eve,job(ann,lyon)'):
            self.refused(InvalidCommand('why'), shell, command)
        others = [value for value in STRANGE if type(value) is not str]
        for value in others + [b'claims', ['claims'], ('claims',), shell, Desk(S)]:
            self.refused(InvalidCommand('why'), shell, value)

    def test_names_and_values(self):
        shell = sample_shell()
        for name in ('Home', 'HOME', 'abcdefghi', '1', '-', 'home,town', 'ho-me', 'home\n', '_', 'h0me'):
            for command in (f'watch {name} nothing', f'watch {name} P <- job(P,T)', f'unwatch {name}',
                            f'answers {name}',
                            f'class {name} ann,gaul', f'class {name} ,', f'share {name} ann,gaul',
                            f'cost {name} ann,gaul',
                            f'matters {name} ann,gaul', f'compiled {name}', f'claim {name} nothing',
                            f'claim {name} job(ann,rome)',
                            f'withdraw {name} job(ann,lyon)', f'withdraw {name} nothing'):
                self.refused(InvalidCommand('why'), shell, command)
        for values in ('ANN', 'ann,', ',gaul', 'ann,,gaul', 'ann;gaul', 'ann,T', '01', '-0', '+1', '1000000001',
                       '00000000001', '--',
                       '-,-', 'ann,-', 'abcdefghi', '1' * 11, '1' * 10 ** 5, 'ann\n', '()', '(ann,gaul)', '1.0',
                       'ann,gaul,'):
            self.assertIsNone(text_oracle.values(values))
            for word in ('class', 'share', 'cost', 'matters'):
                for name in ('home', 'town'):
                    self.refused(InvalidCommand('why'), shell, f'{word} {name} {values}')

    def test_texts_that_cannot_be_parsed(self):
        shell = sample_shell()
        for command in ('claim eve job', 'claim eve job(ann,T)', 'claim eve jobs(ann,rome)', 'withdraw eve job(ann)',
                        'settle job(ann)',
                        'settle job(ann,lyon) | job(bob,lyon)', 'release jobs(ann,lyon)', 'policy none', 'policy ranks',
                        'policy All',
                        'policy chain ( all )', 'watch town P', 'watch home P', 'watch town P <- jobs(P,T)',
                        'schema nothing'):
            self.refused(ParseError('why'), shell, command)

    def test_the_errors_of_the_desk_and_of_the_functions(self):
        shell = sample_shell()
        for command, error in (
                ('claim eve job(ann,lyon)', InvalidOperation('')), ('withdraw tom job(ann,lyon)', InvalidOperation('')),
                ('release job(ann,lyon)', InvalidOperation('')), ('watch home P <- job(P,T)', InvalidOperation('')),
                ('unwatch town', UnknownName('town')), ('answers town', UnknownName('town')),
                ('class town ann,gaul', UnknownName('town')),
                ('class town a', UnknownName('town')), ('share town a', UnknownName('town')),
                ('cost town -', UnknownName('town')),
                ('matters town 1', UnknownName('town')), ('compiled town', UnknownName('town')),
                ('class home ann', InvalidAnswer('')),
                ('class home ann,1', InvalidAnswer('')), ('class home -', InvalidAnswer('')),
                ('share home ann', InvalidAnswer('')),
                ('cost home ann,gaul,x', InvalidAnswer('')), ('matters home 5,7', InvalidAnswer('')),
                ('share home a,b,c,d,e,f,g', InvalidAnswer(''))):
            self.refused(error, shell, command)
        shell.run('settle job(ann,lyon)')
        self.refused(InvalidOperation('why'), shell, 'settle job(ann,lyon)')

    def test_limits(self):
        shell = Shell()
        shell.run(SCHEMA)
        shell.run_all(tuple(f'claim {source} {format_record(S, table, record)}' for table, record,
                            source in many(40, 5)))
        shell.run_all(tuple(f'settle {format_settlement(S, settlement)}' for settlement in many_settlements(60)))
        shell.run_all(tuple(f'watch {letter} P <- job(P,T)' for letter in 'abcdef'))
        self.assertEqual((shell.run('claims'), shell.run('settlements')), ('200', '60'))
        self.refused(TooMany(200), shell, 'claim eve job(zz,zz)')
        self.refused(TooMany(60), shell, 'settle job(zz,zz)')
        self.refused(TooMany(6), shell, 'watch g P <- job(P,T)')
        shell.run('withdraw sa job(aa,aa)')
        self.refused(TooMany(40), shell, 'claim eve job(zz,zz)')

    def test_too_many_choices(self):
        desk = ring_desk(rings.LARGE)
        shell = Shell()
        shell.run(f'schema {format_schema(rings.LEFT_RIGHT)}')
        shell.run_all(tuple(f'claim {source} {format_record(rings.LEFT_RIGHT, table, record)}'
                            for table, record, source in desk.claims()))
        shell.run(f'watch home {format_query(rings.LEFT_RIGHT, rings.CYCLIC)}')
        for command in ('answers home', 'class home a', 'share home a', 'cost home a', 'matters home a', 'policy all',
                        'withdraw eve left(a,xa,ya)', f'watch town {format_query(rings.LEFT_RIGHT, rings.ACYCLIC)}'):
            self.refused(TooMany(4096), shell, command)
        self.assertEqual(shell.run_all(('class home b', 'share home b', 'cost home b', 'matters home b',
                                        'compiled home')),
                         ('impossible', '0/1', '0', 'none', 'no'))
        self.assertTrue(shell.desk() == desk)
        self.assertEqual(shell.run('undo'), 'none')
        self.assertEqual(shell.run('policy all'), 'none')


class TestShell(Shells):

    def test_what_is_counted(self):
        shell = Shell()
        self.assertEqual((len(shell), str(shell)), (0, 'shell with 0 commands'))
        for count, command in enumerate(('claims', None, [], SCHEMA, 'claims', '', 'undo', 'schema x', True), 1):
            self.call(shell.run, command)
            self.assertEqual((len(shell), str(shell)), (count, f'shell with {count} commands'))

    def test_run_all(self):
        shell = Shell()
        self.assertEqual(shell.run_all(()), ())
        others = [value for value in STRANGE if type(value) is not tuple]
        for value in others + ['claims', [SCHEMA], {SCHEMA: 1}, Shell()]:
            self.fails(InvalidCommand('why'), shell.run_all, value)
        self.assertEqual((len(shell), shell.desk()), (0, None))
        # The commands before the one that fails remain run, those after it are not run.
        self.fails(UnknownName('town'), shell.run_all, SAMPLE + ('answers town', 'claim eve job(bob,lyon)'))
        self.assertEqual(len(shell), 18)
        self.assertEqual(shell.run('claims'), '3')
        self.fails(InvalidCommand('why'), shell.run_all, ('claims', None, SCHEMA))
        self.assertEqual((len(shell), shell.run('claims')), (23, '3'))

    def test_equality(self):
        one, other = sample_shell(), sample_shell()
        self.assertTrue(one == other)
        self.assertFalse(one != other)
        self.assertTrue(Shell() == Shell())
        self.call(other.run, 'nothing')
        self.assertTrue(one == other)
        for value in list(STRANGE) + [Shell(), one.desk(), str(one), Shell, object()]:
            self.assertIs(one == value, False)
            self.assertIs(value == one, False)
        other.run('policy votes')
        self.assertFalse(one == other)
        other.run('undo')
        self.assertTrue(one == other)
        empty = Shell()
        for value in (one, None, 0, '', (), False):
            self.assertIs(empty == value, False)

    def test_the_desk_itself(self):
        shell = sample_shell()
        desk = shell.desk()
        self.assertIs(desk, shell.desk())
        shell.run('policy votes')
        self.assertEqual(desk.policy(), ('votes',))
        self.assertEqual(desk.claims(), tuple(sorted((K[1], K[2], K[3]))))
        self.assertEqual(desk.watched(), {'home': Q})
        self.assertEqual(len(desk.log()), 5)
