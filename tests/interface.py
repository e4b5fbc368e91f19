"""The names and arguments that DOC.md lists, file by file."""

LANDED = {
    "fields": "is_field(value), element(p, number), inverse(p, one)",
    "polynomials": "is_polynomial(p, n, value), polynomial_of(p, n, terms), degree(polynomial), "
                   "factor_of(polynomial, powers), plus(p, one, other), times(p, one, other), "
                   "scaled(p, polynomial, factor), constant(p, n, factor), unknown(p, n, at), "
                   "worth(p, polynomial, choice), put_in(p, polynomial, at, one)",
    "lists": "are_lists(p, value), lists_of(p, rows), choice_count(lists), choices(lists), "
             "list_product(p, n, at, row), picks(p, polynomial, lists), first_pick(p, polynomial, lists)",
    "division": "divided_by(p, polynomial, at, row), divided(p, polynomial, lists), "
                "least_form(p, polynomial, lists), are_alike(p, one, other, lists)",
    "tables": "table_of(p, polynomial, lists), form_of(p, lists, worths), mark_of(p, lists, choice)",
    "vanishing": "paper_sum(p, lists, paper), is_vanishing_paper(p, polynomial, lists, value), "
                 "vanishing_paper(p, polynomial, lists)",
    "deciding": "decided(p, polynomial, lists), is_decision(p, polynomial, lists, value)",
    "joint": "joint_sum(p, equations, lists, paper), is_joint_paper(p, equations, polynomial, lists, value), "
             "solved(p, equations, polynomial, lists)",
    "weights": "differences(p, lists, choice), weighted_sum(p, polynomial, lists), top_factor(p, polynomial, lists)",
    "surelists": "sure_powers(polynomial, lengths), is_sure(polynomial, lengths, value), shortened(lists, powers)",
    "leading": "led(p, polynomial, lists), sure_choice(p, polynomial, lists, powers)",
    "fewpicks": "least_shape(lengths, d), least_picks(lengths, d), fewest_condition(p, lists, d)",
    "codes": "code_powers(lengths, d), check_sums(p, lists, d, table), is_code_table(p, lists, d, value)",
    "lost": "is_enough(p, lists, d, lost), filled(p, lists, d, table)",
    "mending": "vote_boxes(lists, powers), votes(p, lists, table, powers), sure_mends(lengths, d), "
               "mended(p, lists, d, table)",
    "planes": "is_plane(p, n, value), plane_holds(p, plane, point), plane_polynomial(p, plane), "
              "left_over(p, lists, planes)",
    "covers": "is_cover(p, lists, point, value), least_cover(p, lists, point), other_left(p, lists, point, planes), "
              "fewest_planes(lengths, most), cover_leaving(p, lists, many), whole_cover(p, lists)",
    "meeting": "missed_plane(p, n, points), is_meeting(p, n, value), least_meeting(p, n)",
    "sums": "sums(p, lists), sum_choice(p, lists, total), fewest_sums(p, lengths), least_sum_lists(lengths), "
            "sum_outside(p, lists, barred)",
    "unlike": "unlike_sums(p, lists), unlike_choice(p, lists, total), unlike_lengths(lengths), "
              "fewest_unlike(p, lengths)",
    "sumfactors": "sums_factor(p, lengths), unlike_factor(p, lengths)",
    "zeros": "common_zeros(p, equations, lists), load(p, equations), weight_sum(p, equations, lists), "
             "second_zero(p, equations, lists, zero), fewest_zeros(p, equations, lists)",
    "totals": "all_lists(p, n), total_worth(p, n, polynomial), zero_unknowns(p, n, many)",
    "zerolots": "adds_up(moduli, marks, lot), is_zero_lot(moduli, marks, value), zero_count(moduli, marks), "
                "sign_count(moduli, marks), zero_lot(moduli, marks)",
    "enoughmarks": "enough(moduli), lacking_marks(moduli), fewest_lots(moduli, many), lot_condition(moduli, marks)",
    "equalshares": "share_lot(n, numbers), lacking_numbers(n)",
    "webs": "is_web(value), web_polynomial(p, web), is_colouring(web, lists, value), colouring(web, lists)",
    "webways": "is_way(web, value), outs(web, way), ways_with(web, numbers), way_within(web, most), "
               "is_within(web, most, value)",
    "rounds": "round_lots(web, way), round_counts(web, way)",
    "webcolours": "length_paper(web, lengths), is_length_paper(web, lengths, value), even_length(web), two_sides(web), "
                  "thickest(web)",
    "games": "is_stand(web, value), is_offer(stand, value), is_answer(web, stand, offer, value), "
             "after(stand, offer, answer), house_wins(web, stand), losing_offer(web, stand)",
    "gamepapers": "game_paper(web, stand), is_game_paper(web, stand, value), kept_answer(web, stand, offer)",
    "playing": "played(web, stand, offers), coloured_at(web, stand, offers), colouring_by_game(web, lists)",
    "bundles": "is_bundle(web, value), tie_numbers(web, bundle), is_divided(q, web, bundle, value), "
               "is_equal(q, web, bundle, value)",
    "dividedparts": "divided_part(q, web, bundle), part_count(q, web, bundle), equal_part(q, web, bundle)",
    "enoughties": "web_pieces(web), tie_moduli(q, web), tie_marks(q, web), enough_ties(q, web), lacking_bundle(q, web), "
                  "fewest_parts(q, web, many)",
    "conditions": "is_condition(n, value), holds(p, condition, choice), held(p, lists, condition), straight(condition)",
    "conditionpolynomials": "zero_only(p, k), told_degree(p, lists, condition), "
                            "condition_polynomial(p, lists, condition)",
    "questions": "tokens_of(text), is_question(value), question_tokens(question), question_text(question)",
    "reading": "read_question(text)",
    "touching": "touched(polynomial), reach_along(n, factors, order), width_along(n, factors, order), "
                "best_order(n, factors), least_width(n, factors)",
    "pieces": "factor_along(p, n, factors, powers, order), piece_sizes(p, n, factors, powers, order)",
    "picking": "pick_count(p, factors, lists, order), some_pick(p, factors, lists, order)",
    "living": "whole_condition(p, n, conditions), is_life(value), begun(p, n, conditions, lists)",
    "livingchanges": "is_change(life, value), carried(life, change), changed(life, change)",
    "lives": "lived(life, changes), diary(life, changes)",
    "sheets": "sheet_holds(value), sheet(name, question), wrong_sheets(values)",
}

# For each class its file, its own arguments, and its methods with theirs.
CLASSES = {
    "House": ("houses", "text", "names(), life(), answer(), sure(), do(change), undo(), within(work)"),
    "Desk": ("desk", "", "load(text), say(command)"),
}

ERRORS = ("PickError", "InvalidPolynomial", "InvalidLists", "InvalidText", "InvalidPaper", "InvalidQuestion",
          "Refused", "InvalidCommand")


def split(text):
    """Pairs (name, arguments) of functions or methods."""
    found = []
    for part in text.rstrip(")").split("), "):
        name, arguments = part.rstrip(")").split("(")
        found.append((name, tuple(arguments.split(", ")) if arguments else ()))
    return found


def listed():
    """Triples (file, name, arguments) of all functions."""
    return [(file, name, arguments) for file, text in LANDED.items() for name, arguments in split(text)]
