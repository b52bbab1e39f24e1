"""Functions from trees to exact numbers, told the same for all trees or parted by a least one."""
