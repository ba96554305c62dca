"""What readers show of rows that move between two keys, whatever their rules, lanes, marks and pictures."""
