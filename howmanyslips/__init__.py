"""How many slips a plan without end bears. Import from the modules of this package."""
