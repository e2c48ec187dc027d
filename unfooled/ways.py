"""What can be come to."""


def reached(firsts, nexts_behind):
    """All nodes that are come to from these, in the order in which they are met; a function tells
    the row of nodes right behind a node."""
    found = {node: True for node in firsts}
    rows = list(found)
    done = 0
    while done < len(rows):
        node = rows[done]
        done = done + 1
        for behind in nexts_behind(node):
            if behind not in found:
                found[behind] = True
                rows.append(behind)
    return rows
