"""Tables cut into blocks, and where these lie from the beginning."""


def cut_rows(rows, many):
    """So many blocks of rows, in order, as equal as can be, the first ones the longer."""
    size, more = divmod(len(rows), many)
    blocks = []
    start = 0
    for number in range(many):
        end = start + size
        if number < more:
            end += 1
        blocks.append(tuple(rows[start:end]))
        start = end
    return blocks


def blocks_of(data, cuts):
    """The dict of all tables to their blocks, one where cuts lacks a table."""
    return {name: cut_rows(rows, cuts.get(name, 1)) for name, rows in data.items()}


def homes_of(number, copies, machines):
    """The machines that have a block from the beginning, the first one first."""
    return tuple([(number + further) % machines for further in range(min(copies, machines))])


def block_files(plan):
    """The ascending list of the blocks' files."""
    return sorted(plan["blocks"])


def block_counts(plan):
    """The dict from the read tables, in the order of the job's reads, to how many blocks they are cut into."""
    counts = {}
    for file in block_files(plan):
        name = block_of(plan, file)[0]
        counts[name] = counts.get(name, 0) + 1
    return counts


def block_of(plan, file):
    """The read table and the number of a block, or None for a file of another task."""
    return plan["blocks"].get(file)
