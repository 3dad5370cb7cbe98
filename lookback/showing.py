"""Showing: looks and sheets written as texts."""

from lookback.looks import PAIRED


def show_look(look):
    """The text of a look: its words, parted by one blank."""
    return " ".join(words_of_look(look))


def words_of_look(look):
    """The list of the words of which the text of a look is made."""
    word = look[0]
    if word == "of":
        return list(look)
    if word in PAIRED:
        return [word] + words_of_look(look[1]) + words_of_look(look[2])
    part = look[2]
    cells = list(part) if word == "columns" else [cell for each in part for cell in each]
    return [word, str(len(part))] + cells + words_of_look(look[1])


def show_sheet(schema, filling, rules, book):
    """The text of a sheet: tables, their rows, rules and looks, each a row of it."""
    lines = [table_line(table) for table in schema]
    lines += [row_line(table[0], row) for table, rows in zip(schema, filling) for row in rows]
    lines += [f"rule {word} {show_look(look)}" for word, look in rules]
    lines += [f"look {word} {show_look(look)}" for word, look in book]
    return "\n".join(lines)


def table_line(table):
    """How a table is written."""
    name, columns, keys = table
    return " ".join(["table", name, str(keys)] + [column_text(column, values) for column, values in columns])


def column_text(column, values):
    """How a column and its values are written, the usual one first."""
    listed = ",".join(values)
    return f"{column}:{listed}"


def row_line(name, row):
    """How a row of a table is written."""
    return " ".join(["row", name] + list(row))
