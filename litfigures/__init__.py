"""Figures of seven strokes on a panel some of whose strokes are broken."""
