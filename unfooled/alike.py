"""Checks of numbers: idle ones, reasons, and readers that accept the same."""

from unfooled.errors import NoStep
from unfooled.groups import groups_behind
from unfooled.readers import Reader, numbers_in_check
from unfooled.words import is_number


def is_check(text):
    return numbers_in_check(text) != []


def nums_of(reader):
    """The numbers of the steps num, in order."""
    return [at for at, text in enumerate(reader.texts) if text.split(" ")[0] == "num"]


def checks_of(reader):
    """For each check a pair: the number of its step, and which of the nums it names."""
    nums = nums_of(reader)
    return [(at, [nums.index(number) for number in numbers_in_check(text)])
            for at, text in enumerate(reader.texts) if is_check(text)]


def groups_of(reader, checks):
    return groups_behind(len(nums_of(reader)), [check for _, check in checks])


def check_at(reader, at):
    """The check with this number of a step, and those ahead of it."""
    checks = checks_of(reader)
    if is_number(at):
        for number, check in checks:
            if number == at:
                return check, [pair for pair in checks if pair[0] < at]
    raise NoStep(at)


def asks(reader):
    return tuple([text for text in reader.texts if not is_check(text)])


def idle(reader):
    checks = checks_of(reader)
    return tuple([at for many, (at, check) in enumerate(checks)
                  if groups_of(reader, checks[:many]).leads_to(check)])


def ways_from(start, ahead):
    """For each num that must equal the first one: the shortest way there by checks same."""
    ways = {start: ()}
    row = [start]
    while row != []:
        here = row.pop(0)
        for at, check in ahead:
            if len(check) == 2 and here in check:
                there = check[0] if check[1] == here else check[1]
                if there not in ways:
                    ways[there] = (*ways[here], at)
                    row.append(there)
    return ways


def reason(reader, at):
    check, ahead = check_at(reader, at)
    ways = ways_from(check[0], ahead)
    if len(check) == 2:
        return ways.get(check[1])
    found = [(*ways[told[0]], number) for number, told in ahead
             if len(told) == 1 and told[0] in ways]
    return min(found, key=len) if found else None


def reason_holds(reader, at, value):
    check, ahead = check_at(reader, at)
    if not isinstance(value, tuple) or not all([is_number(number) for number in value]):
        return False
    table = dict(ahead)
    if not all([number in table for number in value]):
        return False
    return groups_of(reader, [(number, table[number]) for number in value]).leads_to(check)


def refusing_answers(reader, at):
    check, ahead = check_at(reader, at)
    groups = groups_of(reader, ahead)
    if groups.leads_to(check):
        return None
    return groups.numbers(check[0] if len(check) == 1 else None)


def trimmed(reader):
    found = reader
    for at in reversed(idle(reader)):
        found = found.without(at)
    return found


def soonest(reader):
    groups = groups_of(reader, checks_of(reader))
    texts = []
    places = {}
    many = 0
    for text in asks(reader):
        texts.append(text)
        if text.split(" ")[0] != "num":
            continue
        here = len(texts) - 1
        head = groups.heads[many]
        if head in places:
            texts.append(f"same {places[head]} {here}")
        elif groups.evens[head]:
            texts.append(f"even {here}")
        places.setdefault(head, here)
        many = many + 1
    return Reader(reader.name, texts, reader.word)


def missed_check(one, other):
    """Some check of the one that the checks of the other one do not lead to, or None."""
    groups = groups_of(other, checks_of(other))
    for _, check in checks_of(one):
        if not groups.leads_to(check):
            return check
    return None


def accepts_same(one, other):
    return (asks(one) == asks(other) and missed_check(one, other) is None
            and missed_check(other, one) is None)


def parting_answers(one, other):
    if asks(one) != asks(other):
        return None
    for first, second in ((one, other), (other, one)):
        check = missed_check(first, second)
        if check is not None:
            groups = groups_of(second, checks_of(second))
            return groups.numbers(check[0] if len(check) == 1 else None)
    return None


def asked_ahead(reader, at):
    """How many steps ahead of this one are asks."""
    return len([text for text in reader.texts[:at] if not is_check(text)])


def checks_by(reader, many):
    """The checks that come when at most so many steps have been asked."""
    return [(at, check) for at, check in checks_of(reader) if asked_ahead(reader, at) <= many]


def no_later(one, other):
    if not accepts_same(one, other):
        return False
    for at, check in checks_of(other):
        soon = checks_by(one, asked_ahead(other, at))
        if not groups_of(one, soon).leads_to(check):
            return False
    return True
