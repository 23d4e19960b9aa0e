"""The texts of plans and questions."""

from bothtimes.writing import row_text


def show_plan(plan):
    """Tell the plan's text: a row for each table, behind it one for each of its references."""
    rows = []
    for table, columns, references in plan:
        rows.append(row_text(("table", table) + columns))
        for column, target in references:
            rows.append(row_text(("ref", column, target)))
    return "\n".join(rows)


def show_question(question):
    """Tell the question's text: its parts, from the inmost on."""
    return " | ".join(parts_of(question))


def parts_of(question):
    """List the texts of a question's parts, from the inmost on."""
    if question[0] == "rows":
        return [row_text(question)]
    return parts_of(question[1]) + [part_text(question)]


def part_text(question):
    """Tell the text of a question's outmost part."""
    form = question[0]
    if form in ("keep", "count"):
        return row_text((form,) + question[2])
    if form in ("top", "sum"):
        return row_text((form, question[3]) + question[2])
    return row_text((form, question[2], question[3]))
