"""What the tests of points [63] and [64] share: texts drawn with what they must be read as."""

WORDS = ("field", "list", "pick", "or", "and", "not", "like", "unlike")
NAMES = ("a", "b", "x1", "_", "_9", "fields", "List", "picks", "notlike", "like_", "Or", "abc_DEF_123", "z" * 40)


class Writer:
    """Writes tokens by draws; each call tells pairs (tokens, what they are read as), so deep at most."""

    def __init__(self, draws, names):
        self.draws = draws
        self.names = names

    def many(self, usual=3):
        """How many things stand side by side: mostly one, now and then as many as may be."""
        return 1 if self.draws.below(3) else self.draws.between(2, usual)

    def joined(self, word, sign, parts):
        tokens = list(parts[0][0])
        for more, _ in parts[1:]:
            tokens += [sign] + more
        return tokens, parts[0][1] if len(parts) == 1 else (word, tuple(read for _, read in parts))

    def condition(self, deep, most=3):
        return self.joined("some", "or", [self.clause(deep, most) for _ in range(self.many(most))])

    def clause(self, deep, most=3):
        return self.joined("all", "and", [self.step(deep, most) for _ in range(self.many(most))])

    def step(self, deep, most=3):
        kind = self.draws.below(4)
        if deep and kind == 0:
            tokens, read = self.step(deep - 1, most)
            return ["not"] + tokens, ("not", read)
        if deep and kind == 1:
            tokens, read = self.condition(deep - 1, most)
            return ["["] + tokens + ["]"], read
        word = self.draws.one_of(("like", "unlike"))
        sums = [self.sum(deep, 4, 2)[:2] for _ in range(self.draws.one_of((2, 2, 3, 5)))]
        return self.joined(word, word, sums)

    def sum(self, deep, left, most=3):
        tokens, parts, used = [], [], 0
        for at in range(self.many(most)):
            sign = self.draws.one_of(("+", "-")) if at or self.draws.below(4) == 0 else ""
            if at == 0 and sign == "+":
                sign = ""
            more, read, many = self.product(deep, left, most)
            tokens += [sign] * (sign != "") + more
            parts.append(("minus", read) if sign == "-" else read)
            used = max(used, many)
        return tokens, parts[0] if len(parts) == 1 else ("add", tuple(parts)), used

    def product(self, deep, left, most=3):
        tokens, parts, used = [], [], 0
        for at in range(self.many(most)):
            more, read, many = self.factor(deep, left - used, most)
            tokens += ["*"] * (at > 0) + more
            parts.append(read)
            used += many
        return tokens, parts[0] if len(parts) == 1 else ("times", tuple(parts)), used

    def factor(self, deep, left, most=3):
        kind = self.draws.below(6)
        if deep and kind == 0:
            tokens, read, used = self.sum(deep - 1, left, most)
            return ["("] + tokens + [")"], read, used
        if left and kind > 2:
            at = self.draws.below(len(self.names))
            return [self.names[at]], ("of", at), 1
        number = self.draws.one_of((0, 1, 7, 10, 10 ** 29, self.draws.below(10 ** 9)))
        return [str(number)], ("is", number), 0


def drawn_lists(draws, p, many):
    """For each list the pair of its elements in any order, perhaps with doubles, and of it as a list."""
    found = []
    for _ in range(many):
        row = [draws.element(p, 10 ** draws.between(0, 20)) for _ in range(draws.one_of((1, 2, 3, 12)))]
        found.append((row, tuple(sorted(set(row)))))
    return found


def element_tokens(draws, one):
    if one < 0 or (one == 0 and draws.below(5) == 0):
        return ["-", str(-one)]
    return [str(one)]


def drawn_question(draws, p, deep=6):
    """The pair (tokens, question) of a drawn text."""
    names = []
    while len(names) < draws.one_of((1, 2, 2, 3, 10)):
        name = draws.one_of(NAMES)
        if name not in names:
            names.append(name)
    tokens = ["field", str(p), ";"]
    rows = drawn_lists(draws, p, len(names))
    for name, (row, _) in zip(names, rows):
        tokens += ["list", name, ":"]
        for at, one in enumerate(row):
            tokens += [","] * (at > 0) + (element_tokens(draws, one) if p == 0 else [str(one)])
        tokens.append(";")
    more, condition = Writer(draws, names).condition(deep)
    return tokens + ["pick"] + more + [";"], (p, tuple(names), tuple(row for _, row in rows), condition)


def is_run(token):
    return token[0].isascii() and (token[0].isalnum() or token[0] == "_")


def drawn_text(draws, tokens):
    """A text with these tokens, spaces and newlines drawn."""
    text = draws.one_of(("", " ", "\n"))
    for at, token in enumerate(tokens):
        if at and (draws.below(3) == 0 or (is_run(token) and is_run(tokens[at - 1]))):
            text += draws.one_of((" ", "\n", "  ", " \n "))
        text += token
    return text + draws.one_of(("", " ", "\n\n"))


def question_of(condition, p=5, names=("a", "b"), lists=((0, 1), (2,))):
    return p, names, lists, condition


def text_of(condition, ahead="field 5;list a:0,1;list b:2;"):
    """A text with a condition over two lists; 16 tokens stand ahead of it."""
    return ahead + "pick " + condition + ";"
