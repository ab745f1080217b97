"""Which treadlings of a chart fall on a loom."""

from loomhold.chartpapers import least_chart
from loomhold.charts import many_treadlings
from loomhold.exploring import explored
from loomhold.spots import check_moves, fallen_spots, first_spots, spot_ways
from loomhold.ways import first_word_to


def spots_met(loom, chart):
    """The ascending tuple of all spots that are met."""
    check_moves(loom, chart)
    return tuple(sorted(list(spot_ways(chart, first_spots(chart)))))


def do_all_hold(loom, chart):
    """Tell whether no treadling of the chart falls."""
    return first_fall(loom, chart) is None


def first_fall(loom, chart):
    """The first treadling that falls, None if there is none."""
    check_moves(loom, chart)
    ways = spot_ways(chart, first_spots(chart))
    return first_word_to(ways, (0, ""), fallen_spots(loom, chart, ways))


def many_falls(loom, chart, length):
    """How many treadlings with so many letters fall."""
    return many_treadlings(falling_chart(loom, chart), length)


def falling_chart(loom, chart):
    """The least chart, over the letters of a chart, with just its treadlings that fall."""
    check_moves(loom, chart)
    ways = spot_ways(chart, first_spots(chart))
    fallen = fallen_spots(loom, chart, ways)
    taken = {(spot, letter): further for spot in ways for letter, further in ways[spot]}
    return least_chart(explored(
        chart.letters, (0, ""), lambda spot, letter: taken.get((spot, letter)), lambda spot: spot in fallen))
