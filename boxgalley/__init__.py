"""Boxgalley: boxes and pages laid on a floor of cells."""
