"""A slow way to tell the longest beginning of a text: all that the rules of a grammar let stand next is kept.

A rule is a tuple of names of other rules and of what stands in the text: signs,
words, NAME for a name of a program, GOOD for a name of a good.
"""
LETTERS = "abcdefghijklmnopqrstuvwxyz"
DIGITS = "0123456789"
WORDS = ("let", "in", "fn", "case", "of", "or", "left", "right", "first", "second")
KIND_RULES = {
    "kind": [("GOOD",), ("half", "sign", "half")],
    "half": [("GOOD",), ("(", "half", "sign", "half", ")")],
    "sign": [("*",), ("+",), ("&",), ("->",)],
}
PROGRAM_RULES = {
    "program": [(";", "term"), ("inputs", ";", "term")],
    "inputs": [("one",), ("inputs", ",", "one")],
    "one": [("NAME", ":", "kind")],
    "term": [("let", "NAME", ",", "NAME", "=", "term", "in", "term"), ("fn", "NAME", ":", "kind", ".", "term"),
             ("case", "term", "of", "NAME", ".", "term", "or", "NAME", ".", "term"), ("pieces",)],
    "pieces": [("piece",), ("pieces", "piece")],
    "piece": [("NAME",), ("(", "term", ")"), ("(", "term", ",", "term", ")"), ("[", "term", ",", "term", "]"),
              ("left", "(", "term", ":", "kind", ")"), ("right", "(", "term", ":", "kind", ")"),
              ("first", "piece"), ("second", "piece")],
    **KIND_RULES,
}


class Chart:
    """What may have been read: for each number of tokens the items (rule, how much of it is read, where it began)."""

    def __init__(self, rules, start):
        self.rules = rules
        self.start = start
        self.rows = [[]]
        self.add(0, [(start, rule, 0, 0) for rule in rules[start]])

    def add(self, at, items):
        waiting = list(items)
        row = self.rows[at]
        while waiting:
            item = waiting.pop()
            if item in row:
                continue
            row.append(item)
            name, rule, done, begin = item
            if done == len(rule):
                waiting += [(n, r, d + 1, b) for n, r, d, b in self.rows[begin] if d < len(r) and r[d] == name]
            elif rule[done] in self.rules:
                waiting += [(rule[done], told, 0, at) for told in self.rules[rule[done]]]
                waiting += [(name, rule, done + 1, begin) for n, r, d, b in row if n == rule[done] and d == len(r) and b == at]

    def expected(self):
        return {r[d] for _, r, d, _ in self.rows[-1] if d < len(r) and r[d] not in self.rules}

    def take(self, fits):
        items = [(n, r, d + 1, b) for n, r, d, b in self.rows[-1] if d < len(r) and r[d] not in self.rules and fits(r[d])]
        self.rows.append([])
        self.add(len(self.rows) - 1, items)

    def is_whole(self):
        return any(n == self.start and d == len(r) and b == 0 for n, r, d, b in self.rows[-1])


def begins(run, wanted):
    """Whether what is wanted may begin with the letters and digits."""
    if wanted in ("NAME", "GOOD"):
        return len(run) <= 12
    return wanted.startswith(run)


def is_run(run, wanted):
    if wanted == "NAME":
        return run not in WORDS
    return wanted == "GOOD" or wanted == run


def longest_beginning(rules, start, text):
    """None for a text of the sort, otherwise the length of its longest beginning."""
    chart = Chart(rules, start)
    at = 0
    while at < len(text):
        sign = text[at]
        wanted = chart.expected()
        if sign == " ":
            at += 1
        elif sign in LETTERS:
            end = at
            while end < len(text) and text[end] in LETTERS + DIGITS:
                end += 1
            for length in range(1, end - at + 1):
                if not any(begins(text[at:at + length], told) for told in wanted):
                    return at + length - 1
            run = text[at:end]
            chart.take(lambda told: told[0] in LETTERS + "NG" and is_run(run, told))
            if not chart.rows[-1]:
                return end
            at = end
        elif sign == "-" and "->" in wanted:
            if text[at + 1:at + 2] != ">":
                return at + 1
            chart.take(lambda told: told == "->")
            at += 2
        elif sign in wanted:
            chart.take(lambda told: told == sign)
            at += 1
        else:
            return at
    return None if chart.is_whole() else len(text)


def longest_of_program(text):
    """The same of the text of a program, whose inputs have unlike names."""
    at = longest_beginning(PROGRAM_RULES, "program", text)
    names, start = [], 0
    for part in text.split(";")[0].split(","):
        name = part.split(":")[0]
        begin = start + len(name) - len(name.lstrip(" "))
        end = begin
        while end < len(text) and text[end] in LETTERS + DIGITS and end - begin < 12:
            end += 1
        if text[begin:end] in names and end > begin and (at is None or end <= at):
            return end
        names.append(text[begin:end])
        start += len(part) + 1
    return at
