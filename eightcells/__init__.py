"""Eightcells: any book of yes/no rules, never a guess or it says everything."""
