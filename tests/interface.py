"""The names and arguments that DOC.md lists, file by file, as far as they have landed."""

LANDED = {
    "fields": "is_field(value), element(p, number), inverse(p, one)",
    "polynomials": "is_polynomial(p, n, value), polynomial_of(p, n, terms), degree(polynomial), "
                   "factor_of(polynomial, powers), plus(p, one, other), times(p, one, other), "
                   "scaled(p, polynomial, factor), constant(p, n, factor), unknown(p, n, at), "
                   "worth(p, polynomial, choice), put_in(p, polynomial, at, one)",
    "lists": "are_lists(p, value), lists_of(p, rows), choice_count(lists), choices(lists), "
             "list_product(p, n, at, row), picks(p, polynomial, lists), first_pick(p, polynomial, lists)",
    "division": "divided_by(p, polynomial, at, row), divided(p, polynomial, lists), "
                "least_form(p, polynomial, lists), are_alike(p, one, other, lists)",
    "tables": "table_of(p, polynomial, lists), form_of(p, lists, worths), mark_of(p, lists, choice)",
    "vanishing": "paper_sum(p, lists, paper), is_vanishing_paper(p, polynomial, lists, value), "
                 "vanishing_paper(p, polynomial, lists)",
    "deciding": "decided(p, polynomial, lists), is_decision(p, polynomial, lists, value)",
}

ERRORS = ("PickError", "InvalidPolynomial", "InvalidLists", "InvalidText", "InvalidPaper", "InvalidQuestion",
          "Refused", "InvalidCommand")


def listed():
    """Triples (file, name, arguments) of all functions that have landed."""
    found = []
    for file, text in LANDED.items():
        for part in text.rstrip(")").split("), "):
            name, arguments = part.split("(")
            found.append((file, name, tuple(arguments.split(", "))))
    return found
