"""The lines and the words of a part's table."""

from pagefolk.rows import ordered


def lines_of(facts, part, way):
    lines = [fact for fact in facts["lines"] if fact[0] == part and fact[1] == way]
    lives = dict([(fact[2], fact[5]) for fact in lines])
    return [name for name in ordered([fact[2:5] for fact in lines]) if lives[name]]


def key_of_cell(cell):
    return cell[4]


def words_told(facts, part):
    """A dict from (row, column) to the word of the last cell told about both."""
    cells = sorted([cell for cell in facts["cells"] if cell[0] == part], key=key_of_cell)
    return dict([((cell[1], cell[2]), cell[3]) for cell in cells])


def table_of(facts, part):
    rows = lines_of(facts, part, "row")
    columns = lines_of(facts, part, "column")
    told = words_told(facts, part)
    words = []
    for row in rows:
        words.append([told.get((row, column), "") for column in columns])
    return (rows, columns, words)
