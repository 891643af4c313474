"""Reports: tables of bases, and summaries of locks."""

from parcelindex.rows import text_of_extras


def line_of_table(row):
    """The line of a row in a table."""
    name, version, extras, label, _ = row
    text = str(version)
    return f"{name.ljust(20)} {text.rjust(12)} {label.ljust(12)} {text_of_extras(extras)}"


def table(base):
    """The rows of a base, one line for each."""
    return "\n".join([line_of_table(row) for row in base.rows])


def summary_of_rows(rows):
    """The names and versions of rows; None stands for no choice."""
    if rows is None:
        return "nothing"
    return ", ".join([f"{row[0]} {row[1]}" for row in rows])


def lock_summary(lock):
    """The names and versions of a lock, one line for each section."""
    return "\n".join([f"{environment}: {summary_of_rows(rows)}" for environment, rows in lock.sections])
