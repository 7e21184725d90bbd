"""A workbench for agreements among houses of which some fall."""
