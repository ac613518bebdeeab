"""Rings of two worths: what their worths come to by their spans."""

from meanrings.basics import fraction_less, fraction_of, is_whole_within, least_fraction, none_below
from meanrings.errors import NoNumber
from meanrings.means import least_ring
from meanrings.shows import NOUGHT, check_numbers, comes_to, numbers_good, numbers_over, paper_formed, ring_under
from meanrings.webs import ring_worth, rings_of

MOST_SPAN = 1000


def check_spans(web, thing):
    """Refuses what is no spans of the web."""
    if not isinstance(thing, tuple) or len(thing) != len(web[1]):
        raise NoNumber()
    if not all(is_whole_within(part, 1, MOST_SPAN) for part in thing):
        raise NoNumber()


def span_web(web, spans):
    """The web with the spans in the stead of the worths."""
    return (web[0], tuple([(one, other, span) for (one, other, worth), span in zip(web[1], spans)]))


def costs_by(web, spans, bound):
    """The web with each worth taken by the bound's bottom, less its top by the span: so signs show how ratios lie."""
    top, bottom = bound
    return (web[0], tuple([
        (one, other, worth * bottom - top * span) for (one, other, worth), span in zip(web[1], spans)
    ]))


def ring_ratio(web, spans, ring):
    """The worth of a ring divided by what its arrows' spans come to."""
    check_spans(web, spans)
    return fraction_of(ring_worth(web, ring), ring_worth(span_web(web, spans), ring))


def ratio_ring(web, spans):
    """Some ring of the least ratio, None where there is no ring."""
    check_spans(web, spans)
    best = None
    ring = least_ring(web)
    while ring is not None:
        best = ring
        # Over the ratio of this ring, just those of lesser ratios fall below 0.
        ring = ring_under(costs_by(web, spans, ring_ratio(web, spans, ring)), NOUGHT)
    return best


def least_ratio(web, spans):
    """The least ratio of all rings, None where there is no ring."""
    ring = ratio_ring(web, spans)
    return None if ring is None else ring_ratio(web, spans, ring)


def ratios_of(web, spans):
    """All unlike ratios of the rings of a web of few places, rising."""
    check_spans(web, spans)
    ratios = []
    for ring in rings_of(web):
        ratio = ring_ratio(web, spans, ring)
        if ratio not in ratios:
            at = len([told for told in ratios if fraction_less(told, ratio)])
            ratios.insert(at, ratio)
    return ratios


def shares(web, spans, numbers):
    """What each arrow comes to by numbers of the web, divided by its span."""
    return [fraction_of(top, bottom * span) for (top, bottom), span in zip(comes_to(web, numbers), spans)]


def ratio_shows_good(web, spans, bound, thing):
    """Whether a thing is numbers of the web that show the bound by the spans."""
    check_spans(web, spans)
    return numbers_good(web, thing) and none_below(shares(web, spans, thing), bound)


def ratio_shows_for(web, spans, bound):
    """Some numbers of the web that show the bound by the spans, None where some ring has a lesser ratio."""
    check_spans(web, spans)
    return numbers_over(costs_by(web, spans, bound), bound[1])


def ratio_bound_of(web, spans, numbers):
    """The greatest bound that numbers of the web show by the spans, None where there is no arrow."""
    check_spans(web, spans)
    check_numbers(web, numbers)
    return least_fraction(shares(web, spans, numbers))


def ratio_paper_good(web, spans, thing):
    """Whether a thing is a ring of the web and numbers that show its ratio by the spans."""
    check_spans(web, spans)
    if not paper_formed(web, thing):
        return False
    return ratio_shows_good(web, spans, ring_ratio(web, spans, thing[0]), thing[1])


def ratio_paper(web, spans):
    """Some ring and numbers that show that none has a lesser ratio, None where there is no ring."""
    ring = ratio_ring(web, spans)
    if ring is None:
        return None
    return (ring, ratio_shows_for(web, spans, ring_ratio(web, spans, ring)))
