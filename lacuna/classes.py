"""Whether names and types are right in goals and rules, and whether these are of the class (points 41 to 43)."""

from lacuna.terms import FORMULAS, are_terms, copies_well, long_head, places, takes_sorts


def is_atom_head(constants, p):
    """Whether a string is a predicate."""
    return p in constants and constants[p][1] == FORMULAS


def is_head_there(constants, many_holes, many_binders, head):
    """Whether what a head names is there."""
    sign, mark = head
    if sign == "c":
        return mark in constants and constants[mark][1] != FORMULAS
    return mark < (many_binders if sign == "b" else many_holes)


def has_names(constants, holes, site):
    """Whether all that is named at a site is there."""
    if site.tag == "atom" and not is_atom_head(constants, site.mark):
        return False
    for term in site.terms:
        for node, inner in places(term):
            if not is_head_there(constants, len(holes), len(site.binders) + inner, node[1]):
                return False
    return True


def has_types(signature, holes, site):
    """Whether all terms at a site, at which all that is named is there, have the types that are needed."""
    needed = dict(signature)[site.mark][0] if site.tag == "atom" else (site.mark, site.mark)
    return are_terms(signature, holes, site.around(), needed, site.terms)


def binder_there(site, inner, number):
    """The pair of the type and whether it is open of the binder with this number, or None for an own one of a term.

    Of the binders, as many as inner are own ones of the term at the site.
    """
    if number < inner:
        return None
    return site.binders[len(site.binders) - 1 - (number - inner)]


def is_closed(site, inner, number):
    """Whether the binder with this number is a closed one."""
    there = binder_there(site, inner, number)
    return there is None or not there[1]


def closed_numbers(site, inner, parts):
    """The numbers of the different closed binders whose long forms the parts are, or None if they are no such."""
    heads = [long_head(part) for part in parts]
    if not all([head is not None and head[0] == "b" for head in heads]):
        return None
    numbers = [number for _, number in heads]
    if len(set(numbers)) != len(numbers) or not all([is_closed(site, inner, number) for number in numbers]):
        return None
    return numbers


def needs_closed(site, holes, inner, head):
    """The type of a head whose parts must be closed binders, or None if it may have any terms."""
    sign, mark = head
    if sign == "h":
        return holes[mark]
    there = binder_there(site, inner, mark) if sign == "b" else None
    return there[0] if there is not None and there[1] else None


def is_place_of_class(site, holes, free, node, inner):
    """Whether a node at a site is as the class has it; free is whether it stands where a match lets parts be any."""
    kind = needs_closed(site, holes, inner, node[1])
    if kind is None or (free and takes_sorts(kind)):
        return True
    numbers = closed_numbers(site, inner, node[2])
    if numbers is None:
        return False
    sign, mark = node[1]
    # A binder is bound inside of the scope of another one if its number is smaller.
    return sign == "h" or all([number < mark for number in numbers])


def is_site_of_class(site, holes):
    """Whether all nodes at a site are as the class has them."""
    for j, term in enumerate(site.terms):
        free = site.tag == "match" and j == 0
        if not all([is_place_of_class(site, holes, free, node, inner) for node, inner in places(term)]):
            return False
    return True


def are_of_class(signature, holes, found):
    """Whether a rule or a question with these sites is of the class."""
    if any([site.tag == "match" for site in found]) and not copies_well(signature):
        return False
    return all([is_site_of_class(site, holes) for site in found])
