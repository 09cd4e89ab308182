"""Tables: a dict from names to lists of rows."""

from askviews.terms import MOST_TERMS, is_value


def is_row(thing):
    if not isinstance(thing, tuple):
        return False
    return 1 <= len(thing) <= MOST_TERMS and all([is_value(value) for value in thing])


def are_rows(thing):
    return isinstance(thing, list) and all([is_row(row) for row in thing])


def is_tables(thing):
    if not isinstance(thing, dict):
        return False
    return all([is_value(name) and are_rows(rows) for name, rows in thing.items()])


def rows_of(tables, name):
    return sorted(set(tables.get(name, [])))


def tables_of(atoms):
    tables = {}
    for name, row in atoms:
        tables.setdefault(name, []).append(row)
    return sorted_tables(tables)


def sorted_tables(tables):
    told = {}
    for name in sorted(tables):
        rows = rows_of(tables, name)
        if rows:
            told[name] = rows
    return told
