"""Lines taken apart. What is told here of a line may be written otherwise than the line, with other blanks or brackets
say: who asks writes it again and compares. None stands for lines of which nothing can be told."""

from formferry.ferries import STAR

QUOTE = '"'
KINDS = {"?": "maybe", "*": "many", "+": "some"}
FIRST_SIGN = 32
LAST_SIGN = 126
PERCENT = 37


def is_letter(sign):
    return "a" <= sign <= "z"


def is_name(text):
    return text != "" and all([is_letter(sign) for sign in text])


def is_text(line):
    return all([FIRST_SIGN <= ord(sign) <= LAST_SIGN and ord(sign) != PERCENT for sign in line])


# A quote within a text is written otherwise, so the next quote closes it.
def token_end(line, begin):
    end = begin + 1
    if line[begin] == QUOTE:
        close = line.find(QUOTE, end)
        return len(line) if close < 0 else close + 1
    while is_letter(line[begin]) and end < len(line) and is_letter(line[end]):
        end += 1
    return end


def tokens_of(line):
    found = []
    begin = 0
    while begin < len(line):
        end = token_end(line, begin)
        found.append(line[begin:end])
        begin = end
    return [token for token in found if token != " "]


# Cut at the doubled signs first: the second of them does not belong to a q behind it.
def unquoted(token):
    return "\\".join([piece.replace("\\q", QUOTE) for piece in token[1:-1].split("\\\\")])


# The holders are the lists that are not closed yet. Whether the token could be laid there.
def lay_part(holders, token):
    if token.startswith(QUOTE):
        holders[-1].append(unquoted(token))
    elif token == STAR:
        holders[-1].append((STAR, []))
    elif token == ")" and len(holders) > 1:
        holders.pop()
    else:
        return False
    return True


def scanned_row(line):
    told = []
    holders = [told]
    name = ""
    for token in tokens_of(line):
        if name != "" and token == "(":
            inner = []
            holders[-1].append((name, inner))
            holders.append(inner)
            name = ""
        elif name == "" and is_name(token):
            name = token
        elif name != "" or not lay_part(holders, token):
            return None
    return told if name == "" and len(holders) == 1 else None


def gathered(kind, patterns):
    if len(patterns) < 2:
        return patterns[0] if patterns else None
    return (kind, patterns)


def folded(rows):
    patterns = [gathered("row", patterns) for patterns in rows]
    return None if None in patterns else gathered("any", patterns)


def close_bracket(groups):
    inner = folded(groups.pop())
    if inner is None or not groups:
        return False
    groups[-1][-1].append(inner)
    return True


# The groups are the brackets that are not closed yet, each a list of the rows between its bars.
def lay_pattern(groups, token):
    row = groups[-1][-1]
    if token == "(":
        groups.append([[]])
    elif token == ")":
        return close_bracket(groups)
    elif token == "|":
        groups[-1].append([])
    elif token in KINDS and row:
        row.append((KINDS[token], row.pop()))
    elif token == "-":
        row.append(("none",))
    elif token == "#" or is_name(token):
        row.append(("one", token))
    else:
        return False
    return True


def scanned_pattern(line):
    groups = [[[]]]
    for token in tokens_of(line):
        if not lay_pattern(groups, token):
            return None
    return folded(groups[0]) if len(groups) == 1 else None
