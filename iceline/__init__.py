"""Online icebreaker dispatch on a line: double coverage beside the greedy algorithm."""
